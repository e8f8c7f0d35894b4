/-
  Start and Add, of package ring, on a log that lies in segments from sector 0 on, whatever else lies there.
-/
import Derived.Test.YtbbhchmdggfncaaJ37
import Derived.Test.YtbbhchmdggfncaaJ32
namespace Go.Proofs.Ytbbhchmdggfncaa
open Go.RowKit Go.Shelf
set_option linter.unusedSimpArgs false
set_option linter.unusedVariables false
set_option maxRecDepth 100000

section
variable {w0 w : World} {b n db sg sz c : Nat} {G : List (Nat × List Value × TypeId)} {pre : List (List It)} {l : List It} {L : List (List Nat)} {W : List (Nat × List Nat)} {z : List Nat} {e0 : Int}
/-- It goes into the open segment. -/
theorem rg2_in (h : Rg w0 w b n ⟨db, 0, sg, sz, sz * pre.length + itsN l⟩ (devL L W c) G) (hpos : 0 < itsN l) (hlt : itsN l < sz) (hsz : 4 ≤ sz ∧ sz ≤ 64) (hsg : 3 ≤ sg ∧ sg ≤ 64) (hn : sz * sg ≤ n) (hpre : pre.length < sg) (he0 : 0 ≤ e0 ∧ e0 ≤ 4294967295)
    (x : Rv) (hx : ∀ w', (∀ y ∈ G, Blk w' y.1 y.2.1 y.2.2) → RcAt w' x) (hr : rightR x.rc = true) (hk3 : x.rc.kind = 3) (hB : ∀ y ∈ putR x.rc, y < 256) (hl : (putR x.rc).length ≤ 10000) (m : Nat) (hm : sectN (putR x.rc).length = m) (hm2 : m + 2 ≤ sz) (low : Int) (hfit : itsN l + m < sz) (hc : c ≤ 1000000) (hW : W.length ≤ 1000000) :
    Calls Try.prog 9 #[.pointer (some ⟨b, 0, none⟩), x.agg, .int .i64 e0, .int .i64 low] w fun e w' => e = .returned (.tuple #[.int .i64 (sz * pre.length + itsN l : Nat), .int .i64 0]) ∧
      Rg w0 w' b n ⟨db, 0, sg, sz, sz * pre.length + itsN (l ++ [(e0, x.rc)])⟩ (devL L (W ++ putW (sz * pre.length + itsN l) (itS ((sz * pre.length + itsN l : Nat) : Int) (e0, x.rc))) (c + 1)) G := by
  obtain ⟨F, hdv, hFb, hG, hst⟩ := h.open
  obtain ⟨en, hen⟩ : ∃ en, en = sz * pre.length + itsN l := ⟨_, rfl⟩
  have hd1 := en_div (k := pre.length) hlt
  rw [← hen] at hd1
  have hmul : sz * pre.length + sz ≤ n := by
    have : sz * (pre.length + 1) ≤ sz * sg := Nat.mul_le_mul_left sz hpre
    rw [Nat.mul_add] at this
    omega
  have hn2 : n ≤ 4096 := by obtain ⟨bs, wv, hd, _⟩ := hdv; exact hd.n2
  have hBN := putRN_right hr
  have hlen : (itS en (e0, x.rc)).length = m := by rw [itS_length]; exact hm
  have hitn : itN (e0, x.rc) = m := hm
  have hio : ItOk ((sz * pre.length : Nat) + itsN l : Int) (e0, x.rc) := itOk_of hr hB he0 hl ⟨by omega, by omega⟩
  refine (rgadd_in w b n ⟨db, 0, sg, sz, sz * pre.length + itsN l⟩ (devL L W c) F h.log hdv hFb ⟨by simp only []; omega, hsz.2⟩ ⟨by simp only []; omega, hsg.2⟩ (by simp only []; rw [Nat.zero_add, Nat.mul_comm]; exact hn) (by simp only []; omega) e0 low he0 x (fun w' hk => hx w' (fun y hy => hk.blk (h.blk y hy).1 (hG y hy))) (putR x.rc) hBN hl (putR_pos _) m hm (roomE_in hr hk3 (by omega) hm2 (.inl (by rw [← hen, hd1.2]; exact hfit))) (by simp only []; rw [← hen, hd1.2]; exact hfit) en (by simp only []; rw [hen]; exact place_is hlt hpre) _ rfl (by show c < _; omega) (by show (wsV W).length + m < _; simp [wsV]; omega) 0 rfl).mono ?_
  rintro e w' ⟨rfl, hstep⟩
  refine ⟨by rw [if_pos rfl], ?_⟩
  have hr2 := hst _ _ _ hstep
  rw [if_pos rfl] at hr2
  simp only [] at hr2
  rw [← hen] at hr2
  have e1 := devL_write (S := itS en (e0, x.rc)) (itS_64 _ _) L W c en
  rw [hlen] at e1
  have e2 : (sectorsOf (en : Int) (fun _ => e0) (putR x.rc)).flatten = (itS en (e0, x.rc)).flatten := rfl
  rw [e2, e1] at hr2
  rw [← hen, itsN_append, itsN, itsN, hitn, show sz * pre.length + (itsN l + (m + 0)) = en + m by omega]
  exact hr2
/-- There is no room. -/
theorem rg2_no (h : Rg w0 w b n ⟨db, 0, sg, sz, sz * pre.length + itsN l⟩ (devL L W c) G) (hpos : 0 < itsN l) (hlt : itsN l < sz) (hsz : 4 ≤ sz ∧ sz ≤ 64) (hsg : 3 ≤ sg ∧ sg ≤ 64) (hn : sz * sg ≤ n) (hpre : pre.length < sg)
    (x : Rv) (hx : ∀ w', (∀ y ∈ G, Blk w' y.1 y.2.1 y.2.2) → RcAt w' x) (hr : rightR x.rc = true) (hk3 : x.rc.kind = 3) (hl : (putR x.rc).length ≤ 10000) (m : Nat) (hm : sectN (putR x.rc).length = m) (hm2 : m + 2 ≤ sz) (ep low : Int) (hfit : ¬ itsN l + m < sz) (hlow : ¬ ((pre.length : Int) + 1 - sg < low)) :
    Calls Try.prog 9 #[.pointer (some ⟨b, 0, none⟩), x.agg, .int .i64 ep, .int .i64 low] w fun e w' => e = .returned (.tuple #[.int .i64 0, .int .i64 30]) ∧ Rg w0 w' b n ⟨db, 0, sg, sz, sz * pre.length + itsN l⟩ (devL L W c) G := by
  obtain ⟨F, hdv, hFb, hG, hst⟩ := h.open
  have hn2 : n ≤ 4096 := by obtain ⟨bs, wv, hd, _⟩ := hdv; exact hd.n2
  have hd1 := en_div (k := pre.length) hlt
  have hmul : sz * pre.length + sz ≤ n := by
    have : sz * (pre.length + 1) ≤ sz * sg := Nat.mul_le_mul_left sz hpre
    rw [Nat.mul_add] at this
    omega
  refine (rgadd_no w b ⟨db, 0, sg, sz, sz * pre.length + itsN l⟩ h.log x (hx w (fun y hy => (h.blk y hy).1)) ep low ⟨by simp only []; omega, hsz.2⟩ hsg.2 (by simp only []; have := hlt; omega) (putR x.rc) (putRN_right hr) hl m (by rw [if_neg (by have := putR_pos x.rc; omega)]; exact hm) (by omega) 30 (roomE_no hr hk3 (by omega) hm2 (by rw [hd1.1, hd1.2]; rintro (h | h); exact hfit h; exact hlow h)) (by decide)).mono ?_
  rintro e w' ⟨rfl, hk⟩
  exact ⟨rfl, h.same hk⟩
/-- Start, behind what was found, where its segment's head is missing. -/
theorem rg2_start {a en0 : Nat} (h : Rg w0 w b n ⟨db, 0, sg, sz, en0⟩ (devL L W c) G) (hsz : 4 ≤ sz ∧ sz ≤ 64) (hsg : 3 ≤ sg ∧ sg ≤ 64) (hn : sz * sg ≤ n) (ha : a < sg) (he0 : 0 ≤ e0 ∧ e0 ≤ 4294967295) (tl num : Int) (hr : rightR ⟨1, tl, num, []⟩ = true) (hc : c ≤ 1000000) (hW : W.length ≤ 1000000) :
    Calls Try.prog 7 #[.pointer (some ⟨b, 0, none⟩), .int .i64 a, .int .i64 e0, .int .i64 tl, .int .i64 num] w fun e w' => e = .returned (.int .i64 0) ∧
      Rg w0 w' b n ⟨db, 0, sg, sz, sz * a + itsN [hdI e0 tl num]⟩ (devL L (W ++ putW (sz * a) (itS ((sz * a : Nat) : Int) (hdI e0 tl num))) (c + 1)) G := by
  obtain ⟨F, hdv, hFb, hG, hst⟩ := h.open
  have hhl := hd_len tl num
  have hhN : itN (hdI e0 tl num) = 1 := by
    show sectN (putR ⟨1, tl, num, []⟩).length = 1
    rw [hhl]; rfl
  have hl1 : (itS ((sz * a : Nat) : Int) (hdI e0 tl num)).length = 1 := by rw [itS_length]; exact hhN
  refine (rgstart_at w b n ⟨db, 0, sg, sz, en0⟩ (devL L W c) F h.log hdv hFb ⟨by simp only []; omega, hsz.2⟩ ⟨by simp only []; omega, hsg.2⟩ (by simp only []; rw [Nat.zero_add, Nat.mul_comm]; exact hn) a (by omega) e0 he0 tl num hr (putR ⟨1, tl, num, []⟩) (putRN_right hr) (by rw [hhl]; decide) (by rw [hhl]; decide) 1 (by rw [hhl]; rfl) (by simp only []; omega) (sz * a) (Nat.mul_comm _ _) (sz * a) (by
    have := place_is (sz := sz) (k := a) (t := 0) (sg := sg) (by omega) ha
    rw [Nat.add_zero] at this
    exact this) _ rfl (by show c < _; omega) (by show (wsV W).length + 1 < _; simp [wsV]; omega) 0 rfl).mono ?_
  rintro e w' ⟨rfl, hstep⟩
  refine ⟨rfl, ?_⟩
  have hr2 := hst _ _ _ hstep
  rw [if_pos rfl] at hr2
  have e1 := devL_write (S := itS ((sz * a : Nat) : Int) (hdI e0 tl num)) (itS_64 _ _) L W c (sz * a)
  rw [hl1] at e1
  have e2 : (sectorsOf ((sz * a : Nat) : Int) (fun _ => e0) (putR ⟨1, tl, num, []⟩)).flatten = (itS ((sz * a : Nat) : Int) (hdI e0 tl num)).flatten := rfl
  rw [e2, e1] at hr2
  rw [itsN, itsN, hhN]
  exact hr2
set_option maxHeartbeats 1000000 in
/-- It turns. -/
theorem rg2_turn (h : Rg w0 w b n ⟨db, 0, sg, sz, sz * pre.length + itsN l⟩ (devL L W c) G) (hpos : 0 < itsN l) (hlt : itsN l < sz) (hsz : 4 ≤ sz ∧ sz ≤ 64) (hsg : 3 ≤ sg ∧ sg ≤ 64) (hn : sz * sg ≤ n) (hpre : pre.length + 1 < sg) (he0 : 0 ≤ e0 ∧ e0 ≤ 4294967295)
    (x : Rv) (hx : ∀ w', (∀ y ∈ G, Blk w' y.1 y.2.1 y.2.2) → RcAt w' x) (hr : rightR x.rc = true) (hk3 : x.rc.kind = 3) (hB : ∀ y ∈ putR x.rc, y < 256) (hl : (putR x.rc).length ≤ 10000) (m : Nat) (hm : sectN (putR x.rc).length = m) (hm2 : m + 2 ≤ sz) (low : Int) (hfit : ¬ itsN l + m < sz) (hlow : (pre.length : Int) + 1 - sg < low) (hc : c ≤ 1000000) (hW : W.length ≤ 1000000) :
    Calls Try.prog 9 #[.pointer (some ⟨b, 0, none⟩), x.agg, .int .i64 e0, .int .i64 low] w fun e w' => e = .returned (.tuple #[.int .i64 (sz * (pre.length + 1) + 1 : Nat), .int .i64 0]) ∧
      Rg w0 w' b n ⟨db, 0, sg, sz, sz * (pre ++ [l ++ [swI e0]]).length + itsN [hdI e0 x.tl x.nm, (e0, x.rc)]⟩ (devL L (W ++ putW (sz * pre.length + itsN l) (itS ((sz * pre.length + itsN l : Nat) : Int) (swI e0)) ++ putW (sz * (pre.length + 1)) (itS ((sz * (pre.length + 1) : Nat) : Int) (hdI e0 x.tl x.nm)) ++ putW (sz * (pre.length + 1) + 1) (itS ((sz * (pre.length + 1) + 1 : Nat) : Int) (e0, x.rc))) (c + 3)) G := by
  obtain ⟨F, hdv, hFb, hG, hst⟩ := h.open
  obtain ⟨en, hen⟩ : ∃ en, en = sz * pre.length + itsN l := ⟨_, rfl⟩
  have hd1 := en_div (k := pre.length) hlt
  rw [← hen] at hd1
  have hmul : sz * (pre.length + 1) + sz ≤ n := by
    have : sz * (pre.length + 1 + 1) ≤ sz * sg := Nat.mul_le_mul_left sz hpre
    rw [Nat.mul_add sz (pre.length + 1)] at this
    omega
  have hme : sz * (pre.length + 1) = sz * pre.length + sz := by rw [Nat.mul_add, Nat.mul_one]
  have hn2 : n ≤ 4096 := by obtain ⟨bs, wv, hd, _⟩ := hdv; exact hd.n2
  have hBN := putRN_right hr
  have hitn : itN (e0, x.rc) = m := hm
  have hhr := hd_right hr hk3
  have hhl := hd_len x.tl x.nm
  have hhN : itN (hdI e0 x.tl x.nm) = 1 := by
    show sectN (putR ⟨1, x.tl, x.nm, []⟩).length = 1
    rw [hhl]; rfl
  have hswN : itN (swI e0) = 1 := itN_switch rfl
  have hhr' : rightR ⟨1, x.tl, x.nm, []⟩ = true := hhr
  have hBh := putRN_right hhr'
  obtain ⟨p2, hp2⟩ : ∃ p2, p2 = sz * (pre.length + 1) := ⟨_, rfl⟩
  obtain ⟨p3, hp3⟩ : ∃ p3, p3 = p2 + 1 := ⟨_, rfl⟩
  have hl1 : (itS en (swI e0)).length = 1 := by rw [itS_length]; exact hswN
  have hl2 : (itS p2 (hdI e0 x.tl x.nm)).length = 1 := by rw [itS_length]; exact hhN
  have hl3 : (itS p3 (e0, x.rc)).length = m := by rw [itS_length]; exact hm
  refine (rgadd_turn w b n ⟨db, 0, sg, sz, sz * pre.length + itsN l⟩ (devL L W c) F h.log hdv hFb ⟨by simp only []; omega, hsz.2⟩ ⟨by simp only []; omega, hsg.2⟩ (by simp only []; rw [Nat.zero_add, Nat.mul_comm]; exact hn) (by simp only []; omega) e0 low he0 x (fun w' hk => hx w' (fun y hy => hk.blk (h.blk y hy).1 (hG y hy))) (putR x.rc) hBN hl (putR_pos _) m hm
    (roomE_in hr hk3 (by omega) hm2 (.inr (by rw [← hen, hd1.1]; exact hlow))) (by simp only []; rw [← hen, hd1.2]; exact hfit) (putR ⟨1, x.tl, x.nm, []⟩) hBh (by rw [hhl]; decide) (by rw [hhl]; decide) 1 (by rw [hhl]; rfl) (by simp only []; omega)
    en (by simp only []; rw [hen]; exact place_is hlt (by omega)) (itS en (swI e0)).flatten (by simp only []; rw [← hen]; rfl) (sz * pre.length) (by simp only []; rw [← hen, hd1.2]; omega) p2 (by
      simp only []
      have := place_is (sz := sz) (k := pre.length + 1) (t := 0) (sg := sg) (by omega) hpre
      rw [Nat.add_zero] at this
      rw [← hme, hp2]
      exact this) (itS p2 (hdI e0 x.tl x.nm)).flatten (by simp only []; rw [hp2, hme]; rfl) p3 (by simp only []; omega) p3 (by
      simp only []
      have := place_is (sz := sz) (k := pre.length + 1) (t := 1) (sg := sg) (by omega) hpre
      rw [hp3, hp2]
      exact this) (itS p3 (e0, x.rc)).flatten rfl (by
      simp only []
      rw [hp3, hp2, (en_div (sz := sz) (k := pre.length + 1) (t := 1) (by omega)).2]
      omega) (by show c < _; omega) (by show (wsV W).length + 1 + 1 + m < _; simp [wsV]; omega) 0 rfl).mono ?_
  rintro e w' ⟨rfl, hstep⟩
  have hr2 := hst _ _ _ hstep
  rw [if_pos rfl] at hr2
  have e1 := devL_write (S := itS en (swI e0)) (itS_64 _ _) L W c en
  have e2 := devL_write (S := itS p2 (hdI e0 x.tl x.nm)) (itS_64 _ _) L (W ++ putW en (itS en (swI e0))) (c + 1) p2
  have e3 := devL_write (S := itS p3 (e0, x.rc)) (itS_64 _ _) L (W ++ putW en (itS en (swI e0)) ++ putW p2 (itS p2 (hdI e0 x.tl x.nm))) (c + 1 + 1) p3
  rw [hl1] at e1
  rw [hl2] at e2
  rw [hl3] at e3
  have e4 : aDev (devL L W c) en (itS en (swI e0)).flatten p2 1 (itS p2 (hdI e0 x.tl x.nm)).flatten p3 m (itS p3 (e0, x.rc)).flatten = wDev (wDev (wDev (devL L W c) en 1 (itS en (swI e0)).flatten) p2 1 (itS p2 (hdI e0 x.tl x.nm)).flatten) p3 m (itS p3 (e0, x.rc)).flatten := rfl
  rw [e4, e1, e2, e3] at hr2
  refine ⟨by rw [if_pos rfl, hp3, hp2], ?_⟩
  rw [itsN, itsN, itsN, hhN, hitn, List.length_append, List.length_singleton, show sz * (pre.length + 1) + (1 + (m + 0)) = p3 + m by omega, ← hp2, ← hp3, ← hen]
  exact hr2
end
end Go.Proofs.Ytbbhchmdggfncaa
