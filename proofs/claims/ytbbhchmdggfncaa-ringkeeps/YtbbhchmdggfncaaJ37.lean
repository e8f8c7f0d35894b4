/-
  Add, of package ring, where it turns, on a log that lies in segments from sector 0 on.
-/
import Derived.Test.YtbbhchmdggfncaaJ36
import Derived.Test.YtbbhchmdggfncaaJ24
namespace Go.Proofs.Ytbbhchmdggfncaa
open Go.RowKit Go.Shelf
set_option linter.unusedSimpArgs false
set_option linter.unusedVariables false
set_option maxRecDepth 100000

def swI (e0 : Int) : It := (e0, ⟨2, 0, 0, []⟩)
def hdI (e0 tl nm : Int) : It := (e0, ⟨1, tl, nm, []⟩)
theorem hd_right {r : Rc} (h : rightR r = true) (hk : r.kind = 3) : rightR ⟨1, r.tl, r.num, []⟩ = true := by
  unfold rightR at h ⊢
  rw [if_neg (by rw [hk]; decide), if_neg (by rw [hk]; decide), if_pos hk] at h
  rw [if_neg (show ¬ (1 : Int) = 2 by decide), if_pos (show (1 : Int) = 1 from rfl)]
  simp only [Bool.and_eq_true] at h
  have h1 : tnOk ⟨1, r.tl, r.num, []⟩ = tnOk r := rfl
  rw [h1, h.1.1]
  rfl
theorem hd_len (tl nm : Int) : (putR ⟨1, tl, nm, []⟩).length = 13 := by simp [putR, numB]
theorem hd_lt (tl nm : Int) : ∀ y ∈ putR ⟨1, tl, nm, []⟩, y < 256 := by
  intro y hy
  unfold putR at hy
  simp only [if_neg (show ¬ (1 : Int) = 2 by decide), if_neg (show ¬ (1 : Int) = 3 by decide), List.append_nil] at hy
  rcases List.mem_append.1 hy with h | h
  · exact numB_lt _ _ y h
  · rcases List.mem_append.1 h with h | h
    · exact numB_lt _ _ y h
    · exact numB_lt _ _ y h
section
variable {w0 w : World} {b n db sg sz c : Nat} {G : List (Nat × List Value × TypeId)} {pre : List (List It)} {l : List It} {L : List (List Nat)} {W : List (Nat × List Nat)} {z : List Nat} {e0 : Int}
set_option maxHeartbeats 1000000 in
/-- It turns. -/
theorem rgk_turn (h : Rg w0 w b n ⟨db, 0, sg, sz, sz * pre.length + itsN l⟩ (devL L W c) G) (hd : DevK sz n z (pre ++ [l]) L W) (hs : SegsOk sz e0 pre l) (hsz : 4 ≤ sz ∧ sz ≤ 64) (hsg : 3 ≤ sg ∧ sg ≤ 64) (hn : sz * sg ≤ n) (hpre : pre.length + 1 < sg) (he0 : 0 ≤ e0 ∧ e0 ≤ 4294967295)
    (x : Rv) (hx : ∀ w', (∀ y ∈ G, Blk w' y.1 y.2.1 y.2.2) → RcAt w' x) (hr : rightR x.rc = true) (hk3 : x.rc.kind = 3) (hB : ∀ y ∈ putR x.rc, y < 256) (hl : (putR x.rc).length ≤ 10000) (m : Nat) (hm : sectN (putR x.rc).length = m) (hm2 : m + 2 ≤ sz) (low : Int) (hfit : ¬ itsN l + m < sz) (hlow : (pre.length : Int) + 1 - sg < low) (hc : c ≤ 1000000) (hW : W.length ≤ 1000000) :
    Calls Try.prog 9 #[.pointer (some ⟨b, 0, none⟩), x.agg, .int .i64 e0, .int .i64 low] w fun e w' => e = .returned (.tuple #[.int .i64 (sz * (pre.length + 1) + 1 : Nat), .int .i64 0]) ∧
      ∃ W', Rg w0 w' b n ⟨db, 0, sg, sz, sz * (pre ++ [l ++ [swI e0]]).length + itsN [hdI e0 x.tl x.nm, (e0, x.rc)]⟩ (devL L W' (c + 3)) G ∧ DevK sz n z (pre ++ [l ++ [swI e0]] ++ [[hdI e0 x.tl x.nm, (e0, x.rc)]]) L W' ∧ SegsOk sz e0 (pre ++ [l ++ [swI e0]]) [hdI e0 x.tl x.nm, (e0, x.rc)] ∧ W'.length = W.length + 2 + m := by
  obtain ⟨F, hdv, hFb, hG, hst⟩ := h.open
  have hpos := hs.pos
  have hlt := hs.lt
  obtain ⟨en, hen⟩ : ∃ en, en = sz * pre.length + itsN l := ⟨_, rfl⟩
  have hd1 := en_div (k := pre.length) hs.lt
  rw [← hen] at hd1
  have hmul : sz * (pre.length + 1) + sz ≤ n := by
    have : sz * (pre.length + 1 + 1) ≤ sz * sg := Nat.mul_le_mul_left sz hpre
    rw [Nat.mul_add sz (pre.length + 1)] at this
    omega
  have hme : sz * (pre.length + 1) = sz * pre.length + sz := by rw [Nat.mul_add, Nat.mul_one]
  have hn2 : n ≤ 4096 := by obtain ⟨bs, wv, hd, _⟩ := hdv; exact hd.n2
  have hBN := putRN_right hr
  have hitn : itN (e0, x.rc) = m := hm
  have hhr := hd_right hr hk3
  have hhl := hd_len x.tl x.nm
  have hhN : itN (hdI e0 x.tl x.nm) = 1 := by
    show sectN (putR ⟨1, x.tl, x.nm, []⟩).length = 1
    rw [hhl]; rfl
  have hswN : itN (swI e0) = 1 := itN_switch rfl
  have hhr' : rightR ⟨1, x.tl, x.nm, []⟩ = true := hhr
  have hBh := putRN_right hhr'
  obtain ⟨p2, hp2⟩ : ∃ p2, p2 = sz * (pre.length + 1) := ⟨_, rfl⟩
  obtain ⟨p3, hp3⟩ : ∃ p3, p3 = p2 + 1 := ⟨_, rfl⟩
  have hi1 : ItOk ((sz * pre.length : Nat) + itsN l : Int) (swI e0) := itOk_of rfl (by intro y hy; have h2 : y ∈ ([2] : List Nat) := hy; simp at h2; omega) he0 (by show ([2] : List Nat).length ≤ 10000; decide) ⟨by omega, by omega⟩
  have hi2 : ItOk ((sz * (pre.length + 1) : Nat) : Int) (hdI e0 x.tl x.nm) := itOk_of hhr' (hd_lt _ _) he0 (by show (putR ⟨1, x.tl, x.nm, []⟩).length ≤ 10000; rw [hhl]; decide) ⟨by omega, by omega⟩
  have hi3 : ItOk ((sz * (pre ++ [l ++ [swI e0]]).length : Nat) + itsN [hdI e0 x.tl x.nm] : Int) (e0, x.rc) := itOk_of hr hB he0 hl (by
    rw [itsN, itsN, hhN, List.length_append, List.length_singleton]
    exact ⟨by omega, by omega⟩)
  have hs2 := hs.turn (by omega) (sw := swI e0) (hd := hdI e0 x.tl x.nm) rfl rfl rfl rfl hi1 hi2 (by rw [hhN]; omega)
  have hs3 := hs2.goesIn (x := (e0, x.rc)) hk3 rfl hi3 (by rw [itsN, itsN, hhN, hitn]; omega)
  have hl1 : (itS en (swI e0)).length = 1 := by rw [itS_length]; exact hswN
  have hl2 : (itS p2 (hdI e0 x.tl x.nm)).length = 1 := by rw [itS_length]; exact hhN
  have hl3 : (itS p3 (e0, x.rc)).length = m := by rw [itS_length]; exact hm
  refine (rgadd_turn w b n ⟨db, 0, sg, sz, sz * pre.length + itsN l⟩ (devL L W c) F h.log hdv hFb ⟨by simp only []; omega, hsz.2⟩ ⟨by simp only []; omega, hsg.2⟩ (by simp only []; rw [Nat.zero_add, Nat.mul_comm]; exact hn) (by simp only []; omega) e0 low he0 x (fun w' hk => hx w' (fun y hy => hk.blk (h.blk y hy).1 (hG y hy))) (putR x.rc) hBN hl (putR_pos _) m hm
    (roomE_in hr hk3 (by omega) hm2 (.inr (by rw [← hen, hd1.1]; exact hlow))) (by simp only []; rw [← hen, hd1.2]; exact hfit) (putR ⟨1, x.tl, x.nm, []⟩) hBh (by rw [hhl]; decide) (by rw [hhl]; decide) 1 (by rw [hhl]; rfl) (by simp only []; omega)
    en (by simp only []; rw [hen]; exact place_is hs.lt (by omega)) (itS en (swI e0)).flatten (by simp only []; rw [← hen]; rfl) (sz * pre.length) (by simp only []; rw [← hen, hd1.2]; omega) p2 (by
      simp only []
      have := place_is (sz := sz) (k := pre.length + 1) (t := 0) (sg := sg) (by omega) hpre
      rw [Nat.add_zero] at this
      rw [← hme, hp2]
      exact this) (itS p2 (hdI e0 x.tl x.nm)).flatten (by simp only []; rw [hp2, hme]; rfl) p3 (by simp only []; omega) p3 (by
      simp only []
      have := place_is (sz := sz) (k := pre.length + 1) (t := 1) (sg := sg) (by omega) hpre
      rw [hp3, hp2]
      exact this) (itS p3 (e0, x.rc)).flatten rfl (by
      simp only []
      rw [hp3, hp2, (en_div (sz := sz) (k := pre.length + 1) (t := 1) (by omega)).2]
      omega) (by show c < _; omega) (by show (wsV W).length + 1 + 1 + m < _; simp [wsV]; omega) 0 rfl).mono ?_
  rintro e w' ⟨rfl, hstep⟩
  have hr2 := hst _ _ _ hstep
  rw [if_pos rfl] at hr2
  have e1 := devL_write (S := itS en (swI e0)) (itS_64 _ _) L W c en
  have e2 := devL_write (S := itS p2 (hdI e0 x.tl x.nm)) (itS_64 _ _) L (W ++ putW en (itS en (swI e0))) (c + 1) p2
  have e3 := devL_write (S := itS p3 (e0, x.rc)) (itS_64 _ _) L (W ++ putW en (itS en (swI e0)) ++ putW p2 (itS p2 (hdI e0 x.tl x.nm))) (c + 1 + 1) p3
  rw [hl1] at e1
  rw [hl2] at e2
  rw [hl3] at e3
  have e4 : aDev (devL L W c) en (itS en (swI e0)).flatten p2 1 (itS p2 (hdI e0 x.tl x.nm)).flatten p3 m (itS p3 (e0, x.rc)).flatten = wDev (wDev (wDev (devL L W c) en 1 (itS en (swI e0)).flatten) p2 1 (itS p2 (hdI e0 x.tl x.nm)).flatten) p3 m (itS p3 (e0, x.rc)).flatten := rfl
  rw [e4, e1, e2, e3] at hr2
  refine ⟨by rw [if_pos rfl, hp3, hp2], W ++ putW en (itS en (swI e0)) ++ putW p2 (itS p2 (hdI e0 x.tl x.nm)) ++ putW p3 (itS p3 (e0, x.rc)), ?_, ?_, hs3, ?_⟩
  · rw [itsN, itsN, itsN, hhN, hitn, List.length_append, List.length_singleton, show sz * (pre.length + 1) + (1 + (m + 0)) = p3 + m by omega]
    exact hr2
  · obtain ⟨q1, q2, q3⟩ := layAt_snoc (pre := pre) (l := l) (x := swI e0) (show 0 < sz by omega) (by rw [hswN]; omega) hen
    have d1 := hd.put q1 q2 q3 (fun q hq => by
      obtain ⟨i, hi, rfl⟩ := List.mem_map.1 hq
      have hi := List.mem_range.1 hi
      simp only []
      omega)
    have d2 := d1.nil
    obtain ⟨q1, q2, q3⟩ := layAt_snoc (pre := pre ++ [l ++ [swI e0]]) (l := []) (x := hdI e0 x.tl x.nm) (e := p2) (show 0 < sz by omega) (by rw [itsN, hhN]; omega) (by rw [itsN, List.length_append, List.length_singleton]; omega)
    have d3 := d2.put q1 q2 q3 (fun q hq => by
      obtain ⟨i, hi, rfl⟩ := List.mem_map.1 hq
      have hi := List.mem_range.1 hi
      simp only []
      omega)
    obtain ⟨q1, q2, q3⟩ := layAt_snoc (pre := pre ++ [l ++ [swI e0]]) (l := [hdI e0 x.tl x.nm]) (x := (e0, x.rc)) (e := p3) (show 0 < sz by omega) (by rw [itsN, itsN, hhN, hitn]; omega) (by rw [itsN, itsN, hhN, List.length_append, List.length_singleton]; omega)
    exact d3.put q1 q2 q3 (fun q hq => by
      obtain ⟨i, hi, rfl⟩ := List.mem_map.1 hq
      have hi := List.mem_range.1 hi
      simp only []
      omega)
  · simp [putW, hl1, hl2, hl3]
    omega
end
end Go.Proofs.Ytbbhchmdggfncaa
