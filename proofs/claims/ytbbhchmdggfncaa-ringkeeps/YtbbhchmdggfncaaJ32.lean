/-
  What was found, as segments. Plain functions over lists; no condition beyond each law's own premises.
-/
import Derived.Test.YtbbhchmdggfncaaJ31
import Derived.Test.YtbbhchmdggfncaaJ12
namespace Go.Proofs.Ytbbhchmdggfncaa
open Go.RowKit Go.Shelf
set_option linter.unusedSimpArgs false
set_option linter.unusedVariables false
set_option maxRecDepth 100000

theorem cutS_sw : ∀ (segs : List (List It)) (M : Nat), ∀ l ∈ (cutS segs M).1, endsIn l = true
  | [], _, l, h => by simp [cutS] at h
  | u :: ls, M, l, h => by
    unfold cutS at h
    split at h
    · rename_i h1
      rcases List.mem_cons.1 h with rfl | h
      · exact h1.2
      · exact cutS_sw ls _ l h
    · simp at h
theorem itsOk_take : ∀ (p : Int) (l : List It) (q : Nat), itsOk p l → itsOk p (l.take q)
  | _, [], q, _ => by simp [itsOk]
  | _, _ :: _, 0, _ => trivial
  | p, x :: l, q + 1, ⟨h1, h2, h3⟩ => ⟨h1, fun hk => by rw [h2 hk]; simp, itsOk_take _ l q h3⟩
theorem segFits_take {sz : Nat} {e0 : Int} : ∀ (l : List It) (s q : Nat), segFits sz e0 s l → segFits sz e0 s (l.take q) ∧ (q < l.length → s + itsN (l.take q) < sz)
  | [], s, q, _ => ⟨by simp [segFits], by simp⟩
  | x :: l, s, 0, ⟨f1, _⟩ => ⟨trivial, fun _ => by simpa [itsN] using f1⟩
  | x :: l, s, q + 1, ⟨f1, f2, f3, f4⟩ => by
    obtain ⟨h1, h2⟩ := segFits_take l (s + itN x) q f4
    refine ⟨⟨f1, f2, f3, h1⟩, fun h => ?_⟩
    have := h2 (by simpa using h)
    rw [List.take_succ_cons, itsN]
    omega
/-- The open segment isn't ended, and is a beginning of the next one. -/
theorem cutS_open : ∀ (segs : List (List It)) (M : Nat), (cutS segs M).2 = [] ∨ ∃ l q, segs[(cutS segs M).1.length]? = some l ∧ (cutS segs M).2 = l.take q ∧ ¬ (l.length ≤ q ∧ endsIn l = true)
  | [], M => by simp [cutS]
  | u :: ls, M => by
    unfold cutS
    split
    · simpa using cutS_open ls (M - u.length)
    · rename_i h
      exact .inr ⟨u, M, rfl, rfl, h⟩
theorem cut_ok {sz : Nat} {e0 : Int} {pre : List (List It)} {l : List It} (hs : SegsOk sz e0 pre l) (M : Nat) :
    (∀ (i : Nat) (l' : List It), (cutS (pre ++ [l]) M).1[i]? = some l' → l' ≠ [] ∧ itsOk ((sz * i : Nat) : Int) l' ∧ segFits sz e0 0 l' ∧ endsIn l' = true) ∧ (cutS (pre ++ [l]) M).1.length ≤ pre.length ∧ ((cutS (pre ++ [l]) M).2 = [] ∨ SegsOk sz e0 (cutS (pre ++ [l]) M).1 (cutS (pre ++ [l]) M).2) := by
  have hsw := cutS_sw (pre ++ [l]) M
  obtain ⟨hp, hq⟩ := cutS_pre (pre ++ [l]) M
  have ho := cutS_open (pre ++ [l]) M
  obtain ⟨c, hc⟩ : ∃ c, c = cutS (pre ++ [l]) M := ⟨_, rfl⟩
  rw [← hc] at hsw hp hq ho ⊢
  have hall : ∀ (i : Nat) (l' : List It), (pre ++ [l])[i]? = some l' → l' ≠ [] ∧ itsOk ((sz * i : Nat) : Int) l' ∧ segFits sz e0 0 l' ∧ (endsIn l' = true ∨ itsN l' < sz) := by
    intro i l' hi
    rcases Nat.lt_or_ge i pre.length with h1 | h1
    · rw [List.getElem?_append_left h1] at hi
      obtain ⟨q1, q2, q3, q4⟩ := hs.prev i l' hi
      exact ⟨q1, q2, q3, .inl q4⟩
    · rw [List.getElem?_append_right h1] at hi
      cases h2 : i - pre.length with
      | zero =>
        rw [h2] at hi
        simp at hi
        obtain rfl : i = pre.length := by omega
        subst hi
        exact ⟨hs.ne, hs.ok, hs.fit, .inr hs.lt⟩
      | succ j => rw [h2] at hi; simp at hi
  have hmem : ∀ (i : Nat) (l' : List It), c.1[i]? = some l' → (pre ++ [l])[i]? = some l' := by
    intro i l' hi
    have hlt : i < c.1.length := by
      rcases Nat.lt_or_ge i c.1.length with h | h
      · exact h
      · rw [List.getElem?_eq_none h] at hi; cases hi
    rw [hp, List.getElem?_take_of_lt hlt] at hi
    exact hi
  have hprev : ∀ (i : Nat) (l' : List It), c.1[i]? = some l' → l' ≠ [] ∧ itsOk ((sz * i : Nat) : Int) l' ∧ segFits sz e0 0 l' ∧ endsIn l' = true := by
    intro i l' hi
    obtain ⟨q1, q2, q3, _⟩ := hall i l' (hmem i l' hi)
    exact ⟨q1, q2, q3, hsw l' (List.mem_of_getElem? hi)⟩
  have hlen : c.1.length ≤ pre.length := by
    rcases Nat.lt_or_ge pre.length c.1.length with h | h
    · exfalso
      have h1 := List.getElem?_eq_getElem h
      have h2 := hmem _ _ h1
      rw [List.getElem?_append_right (Nat.le_refl _), Nat.sub_self] at h2
      simp only [List.getElem?_cons_zero, Option.some.injEq] at h2
      have h3 := hsw _ (List.getElem_mem h)
      rw [← h2, hs.nosw] at h3
      cases h3
    · exact h
  refine ⟨hprev, hlen, ?_⟩
  rcases ho with h | ⟨l2, q, h1, h2, h3⟩
  · exact .inl h
  · by_cases hne : c.2 = []
    · exact .inl hne
    · right
      obtain ⟨q1, q2, q3, q4⟩ := hall _ l2 h1
      have hno : endsIn c.2 = false := by
        rw [Bool.eq_false_iff]
        intro he
        rw [h2] at he
        have hle := endsIn_take _ l2 q q2 he
        rw [List.take_of_length_le hle] at he
        exact h3 ⟨hle, he⟩
      refine ⟨hprev, by rw [h2]; exact itsOk_take _ l2 q q2, by rw [h2]; exact (segFits_take l2 0 q q3).1, hne, hno, ?_⟩
      rw [h2]
      rcases Nat.lt_or_ge q l2.length with h4 | h4
      · have := (segFits_take l2 0 q q3).2 h4
        omega
      · rw [List.take_of_length_le h4]
        rcases q4 with h5 | h5
        · exact absurd ⟨h4, h5⟩ h3
        · exact h5
end Go.Proofs.Ytbbhchmdggfncaa


/-
  The elder epoch's sectors that are left; what is there behind the later epoch's writes. Plain functions over lists; no condition beyond each law's own premises.
-/
namespace Go.Proofs.Ytbbhchmdggfncaa
open Go.RowKit Go.Shelf
set_option linter.unusedSimpArgs false
set_option linter.unusedVariables false
set_option maxRecDepth 100000

theorem itS_ep {p : Int} {x : It} (h : ItOk p x) : ∀ y ∈ itS p x, (getN y).1.ep = x.1 := by
  intro y hy
  obtain ⟨i, hi, rfl⟩ := List.mem_map.1 hy
  rw [getN_put _ (frameAt_right h.lsn h.ep (List.mem_range.1 hi)) (fun b hb => h.bytes b (List.mem_of_mem_drop (List.mem_of_mem_take hb)))]
  rfl
theorem itsS_ep {e0 : Int} : ∀ (p : Int) (l : List It), itsOk p l → (∀ x ∈ l, x.1 = e0) → ∀ y ∈ itsS p l, (getN y).1.ep = e0
  | _, [], _, _, y, hy => by simp [itsS] at hy
  | p, x :: l, ⟨h1, _, h3⟩, he, y, hy => by
    rcases List.mem_append.1 hy with hy | hy
    · rw [itS_ep h1 y hy, he x (by simp)]
    · exact itsS_ep _ l h3 (fun u hu => he u (List.mem_cons_of_mem _ hu)) y hy
theorem layAt_ep {sz : Nat} {e0 : Int} {pre : List (List It)} {l : List It} (hs : SegsOk sz e0 pre l) {p : Nat} {y : List Nat} (h : layAt sz (pre ++ [l]) p = some y) : (getN y).1.ep = e0 := by
  unfold layAt at h
  split at h
  case h_2 => cases h
  rename_i l' hl'
  have hy := List.mem_of_getElem? h
  rcases Nat.lt_or_ge (p / sz) pre.length with h1 | h1
  · rw [List.getElem?_append_left h1] at hl'
    obtain ⟨_, q2, q3, _⟩ := hs.prev _ l' hl'
    exact itsS_ep _ l' q2 (segFits_last l' 0 q3) y hy
  · rw [List.getElem?_append_right h1] at hl'
    cases h2 : p / sz - pre.length with
    | zero =>
      rw [h2] at hl'
      simp at hl'
      have h3 : p / sz = pre.length := by omega
      rw [h3] at hy
      subst hl'
      exact itsS_ep _ l hs.ok (segFits_last l 0 hs.fit) y hy
    | succ j => rw [h2] at hl'; simp at hl'
/-- More is written behind what is there. -/
theorem laid_more {sz n : Nat} {segs segs2 : List (List It)} {L : List (List Nat)} {N : List (Nat × List Nat)} (hLn : L.length = n) (hL : ∀ x ∈ L, x.length = 64) (h1 : ∀ (p : Nat) (y : List Nat), layAt sz segs p = some y → L[p]? = some y)
    (q1 : ∀ p y, layAt sz segs p = some y → layAt sz segs2 p = some y) (q2 : ∀ q ∈ N, layAt sz segs2 q.1 = some q.2) (q3 : ∀ p y, layAt sz segs2 p = some y → layAt sz segs p = some y ∨ (p, y) ∈ N) (q4 : ∀ q ∈ N, q.1 < n) :
    (laidL (fun _ => true) N L N.length).length = n ∧ (∀ x ∈ laidL (fun _ => true) N L N.length, x.length = 64) ∧ (∀ (p : Nat) (y : List Nat), layAt sz segs2 p = some y → (laidL (fun _ => true) N L N.length)[p]? = some y) ∧
    (∀ (p : Nat) (y : List Nat), (laidL (fun _ => true) N L N.length)[p]? = some y → layAt sz segs2 p = some y ∨ L[p]? = some y) := by
  have hW : ∀ q ∈ N, q.1 < L.length ∧ q.2.length = 64 := fun q hq => ⟨by rw [hLn]; exact q4 q hq, (layAt_64 (q2 q hq)).1⟩
  refine ⟨by rw [laidL_length, hLn], laidL_64 hL hW _, ?_, ?_⟩
  · intro p y hp
    have h3 : L[p]? = some y ∨ (p, y) ∈ N := (q3 p y hp).imp (h1 p y) id
    have hpn : p < L.length := by
      rcases h3 with h3 | h3
      · rcases Nat.lt_or_ge p L.length with h2 | h2
        · exact h2
        · rw [List.getElem?_eq_none h2] at h3; cases h3
      · exact (hW _ h3).1
    refine laidL_one hpn (fun j x hj => ?_) _ ?_
    · have := q2 _ (List.mem_of_getElem? hj)
      simp only [] at this
      rw [hp] at this
      exact (Option.some.inj this).symm
    · rcases h3 with h3 | h3
      · exact .inr h3
      · obtain ⟨i, hi⟩ := List.mem_iff_getElem?.1 h3
        refine .inl ⟨i, ?_, hi, rfl⟩
        rcases Nat.lt_or_ge i N.length with h4 | h4
        · exact h4
        · rw [List.getElem?_eq_none h4] at hi; cases hi
  · intro p y hp
    rcases laidL_some _ hp with h3 | ⟨i, _, h3, _⟩
    · exact .inr h3
    · exact .inl (q2 _ (List.mem_of_getElem? h3))
/-- What stands behind the last record there: none, or one of the elder epoch. -/
theorem left_over {sz : Nat} (hsz : 0 < sz) {e0 : Int} {z : List Nat} {pre0 : List (List It)} {l0 : List It} (hs : SegsOk sz e0 pre0 l0) {L L2 : List (List Nat)} (hor : ∀ (p : Nat) (y : List Nat), L[p]? = some y → y = z ∨ layAt sz (pre0 ++ [l0]) p = some y)
    {pre2 : List (List It)} {l2 : List It} (hn : itsN l2 < sz) (hb : ∀ (p : Nat) (y : List Nat), L2[p]? = some y → layAt sz (pre2 ++ [l2]) p = some y ∨ L[p]? = some y) : ∀ y, L2[sz * pre2.length + itsN l2]? = some y → y = z ∨ (getN y).1.ep ≤ e0 := by
  intro y hy
  rcases hb _ y hy with h | h
  · rw [layAt_in hsz (l := l2) (by simp) hn, List.getElem?_eq_none (by rw [itsS_len]; exact Nat.le_refl _)] at h
    cases h
  · rcases hor _ y h with h | h
    · exact .inl h
    · exact .inr (by rw [layAt_ep hs h]; exact Int.le_refl _)
end Go.Proofs.Ytbbhchmdggfncaa


/-
  A ring that goes on: all that was found, and the later epoch's record, is found again. Plain functions over lists; no condition beyond each law's own premises.
-/
namespace Go.Proofs.Ytbbhchmdggfncaa
open Go.RowKit Go.Shelf
set_option linter.unusedSimpArgs false
set_option linter.unusedVariables false
set_option maxRecDepth 100000

theorem len_itsN : ∀ (l : List It), l.length ≤ itsN l
  | [] => Nat.le_refl _
  | x :: l => by
    have := len_itsN l
    have := itN_pos x
    rw [itsN, List.length_cons]
    omega
/-- The least epoch ahead of a segment. -/
def leK (i : Nat) : Int := if i = 0 then 0 else 1
theorem leK_le (i : Nat) : 0 ≤ leK i ∧ leK i ≤ 1 := by unfold leK; split <;> omega
theorem ended_prev {sz i : Nat} {l : List It} (h1 : l ≠ []) (h2 : itsOk ((sz * i : Nat) : Int) l) (h3 : segFits sz 1 0 l) (h4 : endsIn l = true) : Ended1 sz 2 i (leK i) l ∧ leK (i + 1) = lastE (leK i) l := by
  have h5 := segFits_end l 0 h3 h4
  have h6 := segFits_len l 0 (Nat.zero_le _) h3
  have h7 : lastE (leK i) l = 1 := lastE_eq h3 h1
  exact ⟨⟨h2, fitsM_seg (by decide) l 0 (leK i) h3 (leK_le i).2, h4, by omega, by omega, by omega⟩, by rw [h7]; rfl⟩
/-- The record goes into the open segment. -/
theorem open_in {sz : Nat} {pre : List (List It)} {l : List It} (hs : SegsOk sz 1 pre l) {x : It} (hk : x.2.kind = 3) (he : x.1 = 2) (hx : ItOk ((sz * pre.length : Nat) + itsN l : Int) x) (hfit : itsN l + itN x < sz) : Open1 sz 2 1 pre.length (leK pre.length) (l ++ [x]) := by
  have hpos : 0 < itsN l := by
    have := hs.ne
    cases l with
    | nil => exact absurd rfl this
    | cons y l => have := itN_pos y; rw [itsN]; omega
  have hn : itsN (l ++ [x]) = itsN l + itN x := by rw [itsN_append, itsN, itsN]; rfl
  refine ⟨itsOk_snoc _ l x hs.ok hs.nosw hx, fitsM_snoc (by rw [he]; decide) l 0 _ (fitsM_seg (by decide) l 0 _ hs.fit (leK_le _).2) (by have := hs.lt; omega) ?_ (by rw [lastE_eq hs.fit hs.ne, he]; decide), by rw [endsIn_snoc, hk]; rfl, by simp, ?_, by omega, by rw [lastE_snoc, he]; decide⟩
  · unfold belN
    rw [hk, if_neg (by decide), if_pos rfl]
    simp only [Nat.zero_add, Bool.and_eq_true, decide_eq_true_eq]
    omega
  · have := len_itsN (l ++ [x]); omega
/-- A head and the record, of the later epoch, alone. -/
theorem open_head {sz k : Nat} {le : Int} (hle : le ≤ 2) {hd x : It} (hk1 : hd.2.kind = 1) (he1 : hd.1 = 2) (hn1 : itN hd = 1) (h1 : ItOk ((sz * k : Nat) : Int) hd) (hk : x.2.kind = 3) (he : x.1 = 2) (hx : ItOk ((sz * k : Nat) + 1 : Int) x) (hfit : 1 + itN x < sz) : Open1 sz 2 1 k le [hd, x] := by
  have hn : itsN [hd, x] = 1 + itN x := by rw [itsN, itsN, itsN, hn1]; rfl
  have hxp := itN_pos x
  refine ⟨⟨h1, fun h => absurd h (by rw [hk1]; decide), by rw [hn1]; exact hx, fun h => absurd h (by rw [hk]; decide), trivial⟩, ⟨by omega, ?_, by rw [he1]; exact hle, by rw [he1]; decide, by omega, ?_, by rw [he1, he]; decide, by rw [he]; decide, trivial⟩, by simp [endsIn, hk], by simp, by simp; omega, by omega, by simp [lastE, he]⟩
  · unfold belN
    rw [hk1, if_pos rfl]
    rfl
  · unfold belN
    rw [hk, if_neg (by decide), if_pos rfl, hn1]
    simp only [Nat.zero_add, Bool.and_eq_true, decide_eq_true_eq]
    omega
/-- The open segment is ended by the later epoch's switch. -/
theorem ended_sw {sz : Nat} {pre : List (List It)} {l : List It} (hs : SegsOk sz 1 pre l) {x : It} (hk : x.2.kind = 2) (he : x.1 = 2) (hx : ItOk ((sz * pre.length : Nat) + itsN l : Int) x) : Ended1 sz 2 pre.length (leK pre.length) (l ++ [x]) ∧ lastE (leK pre.length) (l ++ [x]) = 2 := by
  have hpos : 0 < itsN l := by
    have := hs.ne
    cases l with
    | nil => exact absurd rfl this
    | cons y l => have := itN_pos y; rw [itsN]; omega
  have hlt := hs.lt
  have hn : itsN (l ++ [x]) = itsN l + 1 := by rw [itsN_append, itsN, itsN, itN_switch hk]
  refine ⟨⟨itsOk_snoc _ l x hs.ok hs.nosw hx, fitsM_snoc (by rw [he]; decide) l 0 _ (fitsM_seg (by decide) l 0 _ hs.fit (leK_le _).2) (by omega) ?_ (by rw [lastE_eq hs.fit hs.ne, he]; decide), by rw [endsIn_snoc, hk]; rfl, ?_, by omega, by rw [lastE_snoc, he]; decide⟩, by rw [lastE_snoc, he]⟩
  · unfold belN
    rw [hk, if_neg (by decide), if_neg (by decide)]
    simp only [Nat.zero_add, decide_eq_true_eq]
    exact hpos
  · have := len_itsN (l ++ [x]); omega
/-- All is found again. -/
theorem again_of {sz n sg : Nat} (hsz : 0 < sz) {z : List Nat} (hz : (getN z).2 ≠ 0) (hn : sz * sg ≤ n) {pre0 : List (List It)} {l0 : List It} (hs0 : SegsOk sz 1 pre0 l0) {L : List (List Nat)} (hLn : L.length = n) (hL : ∀ x ∈ L, x.length = 64) (hor : ∀ (p : Nat) (y : List Nat), L[p]? = some y → y = z ∨ layAt sz (pre0 ++ [l0]) p = some y)
    {segs1 : List (List It)} (h1 : ∀ (p : Nat) (y : List Nat), layAt sz segs1 p = some y → L[p]? = some y) {pre2 : List (List It)} {l2 : List It} {N : List (Nat × List Nat)}
    (q1 : ∀ p y, layAt sz segs1 p = some y → layAt sz (pre2 ++ [l2]) p = some y) (q2 : ∀ q ∈ N, layAt sz (pre2 ++ [l2]) q.1 = some q.2) (q3 : ∀ p y, layAt sz (pre2 ++ [l2]) p = some y → layAt sz segs1 p = some y ∨ (p, y) ∈ N) (q4 : ∀ q ∈ N, q.1 < n)
    (hsg : pre2.length + 1 ≤ sg) (le : Nat → Int) (hle : le 0 = 0) (hp : ∀ (i : Nat) (l' : List It), pre2[i]? = some l' → Ended1 sz 2 i (le i) l' ∧ le (i + 1) = lastE (le i) l') (ho : Open1 sz 2 1 pre2.length (le pre2.length) l2) :
    opRun sz 2 (segB 0 sg sz (laidL (fun _ => true) N L N.length)) sg 0 0 = (tellAll sz 0 (pre2 ++ [l2]), ((sz * pre2.length : Nat) : Int) + itsN l2) := by
  obtain ⟨m1, m2, m3, m4⟩ := laid_more hLn hL h1 q1 q2 q3 q4
  have hlo := left_over (pre2 := pre2) hsz hs0 hor ho.n m4
  have hf := full_of (ep := 2) (lim := 1) hsz (by decide) hz m1 m2 hn m3 le pre2 0 (by omega) (fun i => .inl (by rw [Nat.zero_add])) (fun i l' hi => by rw [Nat.zero_add]; exact hp i l' hi) (by rw [Nat.zero_add]; exact ho) (by rw [Nat.zero_add]; exact hlo)
  rw [hle] at hf
  have := opRun_full hsz (pre2 ++ [l2]) 0 sg 0 (by simp; omega) (by simp; omega) hf
  rw [Nat.mul_zero] at this
  simpa using this
end Go.Proofs.Ytbbhchmdggfncaa


/-
  bytes.Clone.
-/
namespace Go.Proofs.Ytbbhchmdggfncaa
open Go.RowKit Go.Shelf
set_option linter.unusedSimpArgs false
set_option linter.unusedVariables false
set_option maxRecDepth 100000

set_option maxRecDepth 100000 in
set_option maxHeartbeats 1000000 in
theorem bclone_at (w : World) (v : Value) (B : List Nat) (hs : Src w v B) (hl : B.length ≤ 90000000) : Calls Try.prog 40 #[v] w fun e w' => ∃ s : Sl, e = .returned (.slice s.a s.n s.c) ∧ Own w' 0 s.v B ∧ Kept (fun _ => False) w w' := by
  have hs' := hs
  obtain ⟨bo, c, rfl, h1, h2, h3, h4⟩ := hs
  have HS := hide hs'
  have H3 := hide h3
  clear hs' h3
  have q25 : ∀ (w : World) (a : Option Addr) (n c : Nat), (binOp .eql 22 (.slice a n c) (.slice none 0 0)).run Try.prog w = .ok (.bool a.isNone) w := fun w a n c => by simp only [binOp]; simp [Op.equal, Op.maxDepth, Lib.run_equalIn_slice_nil w 9999 22 5 a n c 0 0 Try.underlying22]
  cases bo with
  | none =>
    have hB0 : B.length = 0 := by
      rcases Nat.eq_zero_or_pos B.length with h | h
      · exact h
      · obtain ⟨_, _, e, _⟩ := H3.out h; cases e
    obtain rfl : B = [] := List.eq_nil_of_length_eq_zero hB0
    go_enter Try.func40, Try.ntmps40
    go_wp2
    go_ret
    exact ⟨⟨none, 0, 0⟩, rfl, Own.nil w 0, Kept.refl _ _⟩
  | some ad =>
    obtain ⟨i0, hi0, hz0, hs0, hb0⟩ := info_parts Try.info5
    go_enter Try.func40, Try.ntmps40
    go_wp2_with (with_reducible refine stop_bs 22 ?_)
    refine hide ?_
    refine wpList_run rfl (run_bs1 Try.underlying22 hi0 hz0 hs0 [] rfl (by simp) (by simp [Value.cells]) rfl) ?_
    have hb1 := Blk.new w [] 5
    have hk1 : Kept (fun _ => False) w (w.alloc (.cells ([] : List Value).toArray 5)) := Kept.alloc _ _ _
    have hz1 : (w.alloc (.cells ([] : List Value).toArray 5)).heap.size = w.heap.size + 1 := by simp
    generalize w.alloc (.cells ([] : List Value).toArray 5) = w1 at hb1 hk1 hz1
    have ho : Own w1 0 (.slice (some ⟨w.heap.size, 0, none⟩) 0 0) [] := ⟨ownsRow_of (xs := []) (C := []) hb1 rfl (Nat.le_refl _) (Nat.zero_le _) rfl, by simp⟩
    obtain ⟨v', w2, hr, ho2, hk2, hv2⟩ := append_src ho (HS.out.kept hk1) (by simp; omega) (Nat.zero_le _) 22
    have hk3 : Kept (fun _ => False) w w2 := hk1.trans hk2 (fun i hi h => by simp [Value.ownBlock] at h; omega)
    obtain ⟨bo, c', rfl⟩ : ∃ bo c', v' = .slice bo B.length c' := by
      obtain ⟨bo, c', e, _⟩ := ho2.src
      exact ⟨bo, c', by simpa using e⟩
    have HO := hide ho2
    have HK := hide hk3
    have HR := hide hr
    clear ho hr ho2 hk2 hv2 hk3 hb1 hk1 hz1 q25
    simp only [put_lit, List.set_cons_succ, List.set_cons_zero]
    go_wp2_with (with_reducible refine stop_append2 22 22 ?_)
    refine hide ?_
    refine wpList_run rfl (r_append25 rfl rfl HR.out) ?_
    simp only [put_lit, List.set_cons_succ, List.set_cons_zero]
    go_wp2
    go_ret
    exact ⟨⟨bo, B.length, c'⟩, rfl, by simpa using HO.out, HK.out⟩
end Go.Proofs.Ytbbhchmdggfncaa
