/-
  The later epoch's record behind a new head, and behind a turn: all is found again, and it. Plain functions over lists; no condition beyond each law's own premises.
-/
import Derived.Test.YtbbhchmdggfncaaJ34
import Derived.Test.YtbbhchmdggfncaaJ37
namespace Go.Proofs.Ytbbhchmdggfncaa
open Go.RowKit Go.Shelf
set_option linter.unusedSimpArgs false
set_option linter.unusedVariables false
set_option maxRecDepth 100000

/-- More is laid, by the writes N. -/
structure Ext (sz n : Nat) (s1 s2 : List (List It)) (N : List (Nat × List Nat)) : Prop where
  q1 : ∀ p y, layAt sz s1 p = some y → layAt sz s2 p = some y
  q2 : ∀ q ∈ N, layAt sz s2 q.1 = some q.2
  q3 : ∀ p y, layAt sz s2 p = some y → layAt sz s1 p = some y ∨ (p, y) ∈ N
  q4 : ∀ q ∈ N, q.1 < n
theorem Ext.comp {sz n : Nat} {s1 s2 s3 : List (List It)} {N M : List (Nat × List Nat)} (h : Ext sz n s1 s2 N) (g : Ext sz n s2 s3 M) : Ext sz n s1 s3 (N ++ M) := by
  refine ⟨fun p y hp => g.q1 p y (h.q1 p y hp), fun q hq => ?_, fun p y hp => ?_, fun q hq => ?_⟩
  · rcases List.mem_append.1 hq with hq | hq
    · exact g.q1 _ _ (h.q2 q hq)
    · exact g.q2 q hq
  · rcases g.q3 p y hp with hp | hp
    · exact (h.q3 p y hp).imp id (fun h => List.mem_append_left _ h)
    · exact .inr (List.mem_append_right _ hp)
  · rcases List.mem_append.1 hq with hq | hq
    · exact h.q4 q hq
    · exact g.q4 q hq
theorem Ext.nil (sz n : Nat) (s : List (List It)) : Ext sz n s (s ++ [[]]) [] :=
  ⟨fun p y hp => by rw [layAt_nil]; exact hp, by simp, fun p y hp => by rw [layAt_nil] at hp; exact .inl hp, by simp⟩
theorem Ext.snoc {sz n : Nat} (hsz : 0 < sz) {pre : List (List It)} {l : List It} {x : It} (hfit : itsN l + itN x ≤ sz) (hn : sz * pre.length + sz ≤ n) {e : Nat} (he : e = sz * pre.length + itsN l) : Ext sz n (pre ++ [l]) (pre ++ [l ++ [x]]) (putW e (itS e x)) := by
  obtain ⟨q1, q2, q3⟩ := layAt_snoc (pre := pre) (l := l) (x := x) hsz hfit he
  refine ⟨q1, q2, q3, fun q hq => ?_⟩
  obtain ⟨i, hi, rfl⟩ := List.mem_map.1 hq
  have hi := List.mem_range.1 hi
  rw [itS_length] at hi
  simp only []
  omega
theorem seg_end {sz sg n a : Nat} (hn : sz * sg ≤ n) (ha : a + 1 ≤ sg) : sz * a + sz ≤ n := by
  have : sz * (a + 1) ≤ sz * sg := Nat.mul_le_mul_left sz ha
  rw [Nat.mul_add] at this
  omega
section
variable {sz n sg : Nat} {pre0 pre : List (List It)} {l0 l : List It} {L : List (List Nat)} {x : It} {nm : Int}
/-- Behind a new head, where the segment's own was missing. -/
theorem again_head (hsz : 4 ≤ sz) (hn : sz * sg ≤ n) (hs0 : SegsOk sz 1 pre0 l0) (hLn : L.length = n) (hL : ∀ x ∈ L, x.length = 64) (hor : ∀ (p : Nat) (y : List Nat), L[p]? = some y → y = z64 ∨ layAt sz (pre0 ++ [l0]) p = some y)
    (hp : ∀ (i : Nat) (l' : List It), pre[i]? = some l' → l' ≠ [] ∧ itsOk ((sz * i : Nat) : Int) l' ∧ segFits sz 1 0 l' ∧ endsIn l' = true) (h1 : ∀ (p : Nat) (y : List Nat), layAt sz pre p = some y → L[p]? = some y) (hsg : pre.length + 1 ≤ sg)
    (hhd : ItOk ((sz * pre.length : Nat) : Int) (hdI 2 1 nm)) (hk : x.2.kind = 3) (he : x.1 = 2) (hx : ItOk ((sz * pre.length : Nat) + 1 : Int) x) (hfit : 1 + itN x < sz) (hhN : itN (hdI 2 1 nm) = 1) {N : List (Nat × List Nat)} (hN : N = putW (sz * pre.length) (itS ((sz * pre.length : Nat) : Int) (hdI 2 1 nm)) ++ putW (sz * pre.length + 1) (itS ((sz * pre.length + 1 : Nat) : Int) x)) :
    ∃ en, opRun sz 2 (segB 0 sg sz (laidL (fun _ => true) N L N.length)) sg 0 0 = (tellAll sz 0 (pre ++ [[hdI 2 1 nm, x]]), en) ∧ comE (tellAll sz 0 (pre ++ [[hdI 2 1 nm, x]])) = comR pre ++ [x.2] := by
  have hm := seg_end hn hsg
  have e := ((Ext.nil sz n pre).comp (Ext.snoc (pre := pre) (l := []) (x := hdI 2 1 nm) (e := sz * pre.length) (show 0 < sz by omega) (by rw [itsN, hhN]; omega) hm (by rw [itsN]; rfl))).comp (Ext.snoc (pre := pre) (l := [hdI 2 1 nm]) (x := x) (e := sz * pre.length + 1) (show 0 < sz by omega) (by rw [itsN, itsN, hhN]; omega) hm (by rw [itsN, itsN, hhN]))
  rw [List.nil_append] at e
  rw [← hN] at e
  refine ⟨_, again_of (by omega) z64_bad hn hs0 hLn hL hor h1 e.q1 e.q2 e.q3 e.q4 hsg leK rfl (fun i l' hi => by
    obtain ⟨r1, r2, r3, r4⟩ := hp i l' hi
    exact ended_prev r1 r2 r3 r4) (open_head (by have := (leK_le pre.length).2; omega) rfl rfl hhN hhd hk he hx hfit), ?_⟩
  rw [comE_all]
  have h2 := comR_snoc pre [hdI 2 1 nm] x
  rw [if_pos hk] at h2
  have h3 := comR_snoc pre [] (hdI 2 1 nm)
  rw [if_neg (show ¬ (hdI 2 1 nm).2.kind = 3 by simp [hdI]), comR_nil] at h3
  rw [show [hdI 2 1 nm, x] = [hdI 2 1 nm] ++ [x] from rfl, h2, show [hdI 2 1 nm] = [] ++ [hdI 2 1 nm] from rfl, h3]
/-- Behind a turn. -/
theorem again_turn (hsz : 4 ≤ sz) (hn : sz * sg ≤ n) (hs0 : SegsOk sz 1 pre0 l0) (hLn : L.length = n) (hL : ∀ x ∈ L, x.length = 64) (hor : ∀ (p : Nat) (y : List Nat), L[p]? = some y → y = z64 ∨ layAt sz (pre0 ++ [l0]) p = some y)
    (hs : SegsOk sz 1 pre l) (h1 : ∀ (p : Nat) (y : List Nat), layAt sz (pre ++ [l]) p = some y → L[p]? = some y) (hsg : pre.length + 2 ≤ sg)
    (hsw : ItOk ((sz * pre.length : Nat) + itsN l : Int) (swI 2)) (hhd : ItOk ((sz * (pre.length + 1) : Nat) : Int) (hdI 2 1 nm)) (hk : x.2.kind = 3) (he : x.1 = 2) (hx : ItOk ((sz * (pre.length + 1) : Nat) + 1 : Int) x) (hfit : 1 + itN x < sz) (hhN : itN (hdI 2 1 nm) = 1)
    {N : List (Nat × List Nat)} (hN : N = putW (sz * pre.length + itsN l) (itS ((sz * pre.length + itsN l : Nat) : Int) (swI 2)) ++ putW (sz * (pre.length + 1)) (itS ((sz * (pre.length + 1) : Nat) : Int) (hdI 2 1 nm)) ++ putW (sz * (pre.length + 1) + 1) (itS ((sz * (pre.length + 1) + 1 : Nat) : Int) x)) :
    ∃ en, opRun sz 2 (segB 0 sg sz (laidL (fun _ => true) N L N.length)) sg 0 0 = (tellAll sz 0 (pre ++ [l ++ [swI 2]] ++ [[hdI 2 1 nm, x]]), en) ∧ comE (tellAll sz 0 (pre ++ [l ++ [swI 2]] ++ [[hdI 2 1 nm, x]])) = comR (pre ++ [l]) ++ [x.2] := by
  have hm := seg_end (a := pre.length) hn (by omega)
  have hm2 := seg_end (a := pre.length + 1) hn (by omega)
  have hswN : itN (swI 2) = 1 := itN_switch rfl
  have hlt := hs.lt
  have hpl : (pre ++ [l ++ [swI 2]]).length = pre.length + 1 := by simp
  have e := (((Ext.snoc (n := n) (pre := pre) (l := l) (x := swI 2) (e := sz * pre.length + itsN l) (show 0 < sz by omega) (by rw [hswN]; omega) hm rfl).comp (Ext.nil sz n _)).comp (Ext.snoc (n := n) (pre := pre ++ [l ++ [swI 2]]) (l := []) (x := hdI 2 1 nm) (e := sz * (pre.length + 1)) (show 0 < sz by omega) (by rw [itsN, hhN]; omega) (by rw [hpl]; exact hm2) (by rw [itsN, hpl]; rfl))).comp (Ext.snoc (n := n) (pre := pre ++ [l ++ [swI 2]]) (l := [hdI 2 1 nm]) (x := x) (e := sz * (pre.length + 1) + 1) (show 0 < sz by omega) (by rw [itsN, itsN, hhN]; omega) (by rw [hpl]; exact hm2) (by rw [itsN, itsN, hhN, hpl]))
  rw [List.append_nil] at e
  rw [← hN] at e
  obtain ⟨d1, d2⟩ := ended_sw hs (x := swI 2) rfl rfl hsw
  refine ⟨_, again_of (by omega) z64_bad hn hs0 hLn hL hor h1 e.q1 e.q2 e.q3 e.q4 (by rw [hpl]; omega) (fun i => if i = pre.length + 1 then 2 else leK i) (by rw [if_neg (by omega)]; rfl) (fun i l' hi => ?_) (by
    rw [hpl, if_pos rfl]
    exact open_head (by decide) rfl rfl hhN hhd hk he hx hfit), ?_⟩
  · rcases Nat.lt_or_ge i pre.length with h2 | h2
    · rw [List.getElem?_append_left h2] at hi
      obtain ⟨r1, r2, r3, r4⟩ := hs.prev i l' hi
      have := ended_prev r1 r2 r3 r4
      rw [if_neg (by omega), if_neg (by omega)]
      exact this
    · rw [List.getElem?_append_right h2] at hi
      cases h3 : i - pre.length with
      | zero =>
        rw [h3] at hi
        simp at hi
        obtain rfl : i = pre.length := by omega
        subst hi
        rw [if_neg (by omega), if_pos rfl]
        exact ⟨d1, d2.symm⟩
      | succ j => rw [h3] at hi; simp at hi
  · rw [comE_all]
    have h2 := comR_snoc (pre ++ [l ++ [swI 2]]) [hdI 2 1 nm] x
    rw [if_pos hk] at h2
    have h3 := comR_snoc (pre ++ [l ++ [swI 2]]) [] (hdI 2 1 nm)
    rw [if_neg (show ¬ (hdI 2 1 nm).2.kind = 3 by simp [hdI]), comR_nil] at h3
    have h4 := comR_snoc pre l (swI 2)
    rw [if_neg (show ¬ (swI 2).2.kind = 3 by simp [swI])] at h4
    rw [show [hdI 2 1 nm, x] = [hdI 2 1 nm] ++ [x] from rfl, h2, show [hdI 2 1 nm] = [] ++ [hdI 2 1 nm] from rfl, h3, h4]
end
end Go.Proofs.Ytbbhchmdggfncaa
