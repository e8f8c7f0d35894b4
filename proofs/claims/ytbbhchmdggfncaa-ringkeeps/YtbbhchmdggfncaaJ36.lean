/-
  Add, of package ring, on a log that lies in segments from sector 0 on.
-/
import Derived.Test.YtbbhchmdggfncaaJ31
import Derived.Test.YtbbhchmdggfncaaJ35
namespace Go.Proofs.Ytbbhchmdggfncaa
open Go.RowKit Go.Shelf
set_option linter.unusedSimpArgs false
set_option linter.unusedVariables false
set_option maxRecDepth 100000

theorem putRN_right {r : Rc} (h : rightR r = true) : putRN r = putR r := by unfold putRN; rw [if_pos h]
theorem putR_pos (r : Rc) : 0 < (putR r).length := by
  unfold putR
  rw [List.length_append, show (numB r.kind.toNat 1).length = 1 from by simp [numB]]
  omega
theorem en_div {sz k t : Nat} (ht : t < sz) : (sz * k + t) / sz = k ∧ (sz * k + t) % sz = t := by
  refine ⟨by rw [Nat.mul_add_div (by omega), Nat.div_eq_of_lt ht, Nat.add_zero], by rw [Nat.mul_add_mod, Nat.mod_eq_of_lt ht]⟩
theorem place_is {sz k t sg : Nat} (ht : t < sz) (hk : k < sg) : 0 + (sz * k + t) / sz % sg * sz + (sz * k + t) % sz = sz * k + t := by
  rw [(en_div ht).1, (en_div ht).2, Nat.mod_eq_of_lt hk, Nat.zero_add, Nat.mul_comm]
section
variable {w0 w : World} {b n db sg sz c : Nat} {G : List (Nat × List Value × TypeId)} {pre : List (List It)} {l : List It} {L : List (List Nat)} {W : List (Nat × List Nat)} {z : List Nat} {e0 : Int}
theorem SegsOk.pos (hs : SegsOk sz e0 pre l) : 0 < itsN l := by
  have := hs.ne
  cases l with
  | nil => exact absurd rfl this
  | cons y l => have := itN_pos y; rw [itsN]; omega
theorem itOk_of {p : Int} {x : It} (hr : rightR x.2 = true) (hB : ∀ y ∈ putR x.2, y < 256) (he : 0 ≤ x.1 ∧ x.1 ≤ 4294967295) (hl : (putR x.2).length ≤ 10000) (hp : 0 ≤ p ∧ p ≤ 100000) : ItOk p x :=
  ⟨hr, hB, he, hp.1, by unfold sectN; omega, by omega⟩
theorem roomE_in {x : Rv} {m : Nat} {low : Int} {en : Nat} (hr : rightR x.rc = true) (hk3 : x.rc.kind = 3) (hen : en ≠ 0) (h2 : m + 2 ≤ sz) (h : en % sz + m < sz ∨ ((en / sz : Nat) : Int) + 1 - sg < low) : roomE ⟨db, 0, sg, sz, en⟩ x.rc m low = 0 := by
  unfold roomE
  simp only []
  rw [if_neg (by rintro (h | h | h); exact h hk3; rw [hr] at h; cases h; exact hen h), if_neg (by omega), if_pos h]
theorem roomE_no {x : Rv} {m : Nat} {low : Int} {en : Nat} (hr : rightR x.rc = true) (hk3 : x.rc.kind = 3) (hen : en ≠ 0) (h2 : m + 2 ≤ sz) (h : ¬ (en % sz + m < sz ∨ ((en / sz : Nat) : Int) + 1 - sg < low)) : roomE ⟨db, 0, sg, sz, en⟩ x.rc m low = 30 := by
  unfold roomE
  simp only []
  rw [if_neg (by rintro (h | h | h); exact h hk3; rw [hr] at h; cases h; exact hen h), if_neg (by omega), if_neg h]

/-- It goes into the open segment. -/
theorem rgk_in (h : Rg w0 w b n ⟨db, 0, sg, sz, sz * pre.length + itsN l⟩ (devL L W c) G) (hd : DevK sz n z (pre ++ [l]) L W) (hs : SegsOk sz e0 pre l) (hsz : 4 ≤ sz ∧ sz ≤ 64) (hsg : 3 ≤ sg ∧ sg ≤ 64) (hn : sz * sg ≤ n) (hpre : pre.length < sg) (he0 : 0 ≤ e0 ∧ e0 ≤ 4294967295)
    (x : Rv) (hx : ∀ w', (∀ y ∈ G, Blk w' y.1 y.2.1 y.2.2) → RcAt w' x) (hr : rightR x.rc = true) (hk3 : x.rc.kind = 3) (hB : ∀ y ∈ putR x.rc, y < 256) (hl : (putR x.rc).length ≤ 10000) (m : Nat) (hm : sectN (putR x.rc).length = m) (hm2 : m + 2 ≤ sz) (low : Int) (hfit : itsN l + m < sz) (hc : c ≤ 1000000) (hW : W.length ≤ 1000000) :
    Calls Try.prog 9 #[.pointer (some ⟨b, 0, none⟩), x.agg, .int .i64 e0, .int .i64 low] w fun e w' => e = .returned (.tuple #[.int .i64 (sz * pre.length + itsN l : Nat), .int .i64 0]) ∧
      ∃ W', Rg w0 w' b n ⟨db, 0, sg, sz, sz * pre.length + itsN (l ++ [(e0, x.rc)])⟩ (devL L W' (c + 1)) G ∧ DevK sz n z (pre ++ [l ++ [(e0, x.rc)]]) L W' ∧ SegsOk sz e0 pre (l ++ [(e0, x.rc)]) ∧ W'.length = W.length + m := by
  obtain ⟨F, hdv, hFb, hG, hst⟩ := h.open
  have hpos := hs.pos
  obtain ⟨en, hen⟩ : ∃ en, en = sz * pre.length + itsN l := ⟨_, rfl⟩
  have hd1 := en_div (k := pre.length) hs.lt
  rw [← hen] at hd1
  have hmul : sz * pre.length + sz ≤ n := by
    have : sz * (pre.length + 1) ≤ sz * sg := Nat.mul_le_mul_left sz hpre
    rw [Nat.mul_add] at this
    omega
  have hn2 : n ≤ 4096 := by obtain ⟨bs, wv, hd, _⟩ := hdv; exact hd.n2
  have hBN := putRN_right hr
  have hlen : (itS en (e0, x.rc)).length = m := by rw [itS_length]; exact hm
  have hitn : itN (e0, x.rc) = m := hm
  have hio : ItOk ((sz * pre.length : Nat) + itsN l : Int) (e0, x.rc) := itOk_of hr hB he0 hl ⟨by omega, by omega⟩
  refine (rgadd_in w b n ⟨db, 0, sg, sz, sz * pre.length + itsN l⟩ (devL L W c) F h.log hdv hFb ⟨by simp only []; omega, hsz.2⟩ ⟨by simp only []; omega, hsg.2⟩ (by simp only []; rw [Nat.zero_add, Nat.mul_comm]; exact hn) (by simp only []; omega) e0 low he0 x (fun w' hk => hx w' (fun y hy => hk.blk (h.blk y hy).1 (hG y hy))) (putR x.rc) hBN hl (putR_pos _) m hm (roomE_in hr hk3 (by omega) hm2 (.inl (by rw [← hen, hd1.2]; exact hfit))) (by simp only []; rw [← hen, hd1.2]; exact hfit) en (by simp only []; rw [hen]; exact place_is hs.lt hpre) _ rfl (by show c < _; omega) (by show (wsV W).length + m < _; simp [wsV]; omega) 0 rfl).mono ?_
  rintro e w' ⟨rfl, hstep⟩
  refine ⟨by rw [if_pos rfl], W ++ putW en (itS en (e0, x.rc)), ?_, ?_, ?_, ?_⟩
  · have hr2 := hst _ _ _ hstep
    rw [if_pos rfl] at hr2
    simp only [] at hr2
    rw [← hen] at hr2
    have e1 := devL_write (S := itS en (e0, x.rc)) (itS_64 _ _) L W c en
    rw [hlen] at e1
    have e2 : (sectorsOf (en : Int) (fun _ => e0) (putR x.rc)).flatten = (itS en (e0, x.rc)).flatten := rfl
    rw [e2, e1] at hr2
    rw [itsN_append, itsN, itsN, hitn, show sz * pre.length + (itsN l + (m + 0)) = en + m by omega]
    exact hr2
  · obtain ⟨q1, q2, q3⟩ := layAt_snoc (pre := pre) (l := l) (x := (e0, x.rc)) (show 0 < sz by omega) (by rw [hitn]; omega) hen
    refine hd.put q1 q2 q3 (fun q hq => ?_)
    obtain ⟨i, hi, rfl⟩ := List.mem_map.1 hq
    have hi := List.mem_range.1 hi
    simp only []
    omega
  · exact hs.goesIn hk3 rfl hio (by rw [hitn]; exact hfit)
  · rw [List.length_append]
    simp [putW, hlen]
/-- There is no room. -/
theorem rgk_no (h : Rg w0 w b n ⟨db, 0, sg, sz, sz * pre.length + itsN l⟩ (devL L W c) G) (hs : SegsOk sz e0 pre l) (hsz : 4 ≤ sz ∧ sz ≤ 64) (hsg : 3 ≤ sg ∧ sg ≤ 64) (hn : sz * sg ≤ n) (hpre : pre.length < sg)
    (x : Rv) (hx : ∀ w', (∀ y ∈ G, Blk w' y.1 y.2.1 y.2.2) → RcAt w' x) (hr : rightR x.rc = true) (hk3 : x.rc.kind = 3) (hl : (putR x.rc).length ≤ 10000) (m : Nat) (hm : sectN (putR x.rc).length = m) (hm2 : m + 2 ≤ sz) (ep low : Int) (hfit : ¬ itsN l + m < sz) (hlow : ¬ ((pre.length : Int) + 1 - sg < low)) :
    Calls Try.prog 9 #[.pointer (some ⟨b, 0, none⟩), x.agg, .int .i64 ep, .int .i64 low] w fun e w' => e = .returned (.tuple #[.int .i64 0, .int .i64 30]) ∧ Rg w0 w' b n ⟨db, 0, sg, sz, sz * pre.length + itsN l⟩ (devL L W c) G := by
  have hpos := hs.pos
  obtain ⟨F, hdv, hFb, hG, hst⟩ := h.open
  have hn2 : n ≤ 4096 := by obtain ⟨bs, wv, hd, _⟩ := hdv; exact hd.n2
  have hd1 := en_div (k := pre.length) hs.lt
  have hmul : sz * pre.length + sz ≤ n := by
    have : sz * (pre.length + 1) ≤ sz * sg := Nat.mul_le_mul_left sz hpre
    rw [Nat.mul_add] at this
    omega
  refine (rgadd_no w b ⟨db, 0, sg, sz, sz * pre.length + itsN l⟩ h.log x (hx w (fun y hy => (h.blk y hy).1)) ep low ⟨by simp only []; omega, hsz.2⟩ hsg.2 (by simp only []; have := hs.lt; omega) (putR x.rc) (putRN_right hr) hl m (by rw [if_neg (by have := putR_pos x.rc; omega)]; exact hm) (by omega) 30 (roomE_no hr hk3 (by omega) hm2 (by rw [hd1.1, hd1.2]; rintro (h | h); exact hfit h; exact hlow h)) (by decide)).mono ?_
  rintro e w' ⟨rfl, hk⟩
  exact ⟨rfl, h.same hk⟩
end
end Go.Proofs.Ytbbhchmdggfncaa
