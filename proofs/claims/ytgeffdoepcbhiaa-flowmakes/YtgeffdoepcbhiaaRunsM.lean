/-
  Runs, on lists. Nothing of a program's dump is used here.
-/
import Derived.Test.YtgeffdoepcbhiaaRow
namespace Go.Proofs.Ytgeffdoepcbhiaa
open Go.RowKit Go.Shelf
set_option linter.unusedSimpArgs false
set_option linter.unusedVariables false

section
variable {α : Type}
theorem list_snoc {motive : List α → Prop} (h0 : motive []) (h1 : ∀ xs x, motive xs → motive (xs ++ [x])) (xs : List α) : motive xs := by
  have h : ∀ l : List α, motive l.reverse := fun l => by
    induction l with
    | nil => exact h0
    | cons x l ih => rw [List.reverse_cons]; exact h1 _ _ ih
  have := h xs.reverse
  rwa [List.reverse_reverse] at this
def runStep (m : Nat) (s : List (List α) × List α) (x : α) : List (List α) × List α := if s.2.length + 1 < m then (s.1, s.2 ++ [x]) else (s.1 ++ [s.2 ++ [x]], [])
/-- The lists that are full, and what is left. -/
def runSt (m : Nat) (xs : List α) : List (List α) × List α := xs.foldl (runStep m) ([], [])
/-- Lists of m, the last one what is left. -/
def runsOf (m : Nat) (xs : List α) : List (List α) := (runSt m xs).1 ++ (if (runSt m xs).2.length = 0 then [] else [(runSt m xs).2])
theorem runSt_snoc (m : Nat) (xs : List α) (x : α) : runSt m (xs ++ [x]) = runStep m (runSt m xs) x := by simp [runSt]
theorem runSt_less (m : Nat) (xs : List α) (x : α) (h : (runSt m xs).2.length + 1 < m) : runSt m (xs ++ [x]) = ((runSt m xs).1, (runSt m xs).2 ++ [x]) := by rw [runSt_snoc, runStep, if_pos h]
theorem runSt_full (m : Nat) (xs : List α) (x : α) (h : ¬ (runSt m xs).2.length + 1 < m) : runSt m (xs ++ [x]) = ((runSt m xs).1 ++ [(runSt m xs).2 ++ [x]], []) := by rw [runSt_snoc, runStep, if_neg h]
theorem run_shift (m : Nat) : ∀ (l : List α) (d : List (List α)) (c : List α), ∃ d2, l.foldl (runStep m) (d, c) = (d ++ d2, (l.foldl (runStep m) ([], c)).2) ∧ (l.foldl (runStep m) ([], c)).1 = d2
  | [], d, c => ⟨[], by simp⟩
  | x :: l, d, c => by
    simp only [List.foldl_cons, runStep]
    split
    · exact run_shift m l d _
    · obtain ⟨d2, h1, h2⟩ := run_shift m l (d ++ [c ++ [x]]) []
      obtain ⟨d3, h3, h4⟩ := run_shift m l ([] ++ [c ++ [x]]) []
      have : d3 = d2 := by rw [← h4, ← h2]
      subst this
      refine ⟨[c ++ [x]] ++ d3, ?_, ?_⟩
      · rw [h1, h3]; simp
      · rw [h3]; simp
theorem runsOf_prefix (m : Nat) (pre post : List α) (h : (runSt m pre).2 = []) : ∃ d, runsOf m (pre ++ post) = (runSt m pre).1 ++ d := by
  have e : runSt m (pre ++ post) = post.foldl (runStep m) (runSt m pre) := by simp [runSt]
  obtain ⟨d2, h1, _⟩ := run_shift m post (runSt m pre).1 (runSt m pre).2
  refine ⟨d2 ++ (if (List.foldl (runStep m) ([], (runSt m pre).2) post).2.length = 0 then [] else [(List.foldl (runStep m) ([], (runSt m pre).2) post).2]), ?_⟩
  rw [runsOf, e, h1, List.append_assoc]
/-- Where a list gets full. -/
theorem runsOf_full (m : Nat) (pre : List α) (x : α) (post : List α) (h : ¬ (runSt m pre).2.length + 1 < m) : ∃ d, runsOf m (pre ++ x :: post) = (runSt m pre).1 ++ ((runSt m pre).2 ++ [x]) :: d := by
  have hf := runSt_full m pre x h
  obtain ⟨d, hd⟩ := runsOf_prefix m (pre ++ [x]) post (by rw [hf])
  rw [hf] at hd
  exact ⟨d, by simpa using hd⟩
theorem runSt_flat (m : Nat) : ∀ (xs : List α), (runSt m xs).1.flatten ++ (runSt m xs).2 = xs := by
  intro xs
  induction xs using list_snoc with
  | h0 => rfl
  | h1 xs x ih =>
    by_cases h : (runSt m xs).2.length + 1 < m
    · rw [runSt_less m xs x h]
      simp only
      rw [← List.append_assoc, ih]
    · rw [runSt_full m xs x h]
      simp only [List.flatten_append, List.flatten_cons, List.flatten_nil, List.append_nil]
      rw [← List.append_assoc, ih]
theorem runsOf_flat (m : Nat) (xs : List α) : (runsOf m xs).flatten = xs := by
  have h := runSt_flat m xs
  unfold runsOf
  split
  · rename_i h0
    rw [List.eq_nil_of_length_eq_zero h0] at h
    simpa using h
  · simpa using h
theorem runSt_len (m : Nat) (hm : 0 < m) : ∀ (xs : List α), (runSt m xs).2.length = xs.length % m := by
  intro xs
  induction xs using list_snoc with
  | h0 => simp [runSt]
  | h1 xs x ih =>
    have hlt := Nat.mod_lt xs.length hm
    by_cases h : (runSt m xs).2.length + 1 < m
    · rw [runSt_less m xs x h]
      rw [ih] at h
      simp only [List.length_append, List.length_cons, List.length_nil, ih]
      rw [Nat.add_mod, Nat.mod_eq_of_lt (a := 0 + 1) (by omega), Nat.mod_eq_of_lt (a := xs.length % m + (0 + 1)) (by omega)]
    · rw [runSt_full m xs x h]
      rw [ih] at h
      simp only [List.length_append, List.length_cons, List.length_nil]
      have e : xs.length % m + 1 = m := by omega
      rw [show xs.length + (0 + 1) = (xs.length / m) * m + (xs.length % m + 1) by have := Nat.div_add_mod xs.length m; rw [Nat.mul_comm] at this; omega, e, ← Nat.succ_mul, Nat.mul_mod_left]
theorem runSt_cnt (m : Nat) : ∀ (xs : List α), (runSt m xs).1.length ≤ xs.length := by
  intro xs
  induction xs using list_snoc with
  | h0 => simp [runSt]
  | h1 xs x ih =>
    by_cases h : (runSt m xs).2.length + 1 < m
    · rw [runSt_less m xs x h]; simp; omega
    · rw [runSt_full m xs x h]; simp; omega
theorem runSt_cur (m : Nat) (xs : List α) : (runSt m xs).2.length ≤ xs.length := by
  have := congrArg List.length (runSt_flat m xs)
  simp at this
  omega
theorem runsOf_cnt (m : Nat) (xs : List α) : (runsOf m xs).length ≤ xs.length + 1 := by
  have := runSt_cnt m xs
  unfold runsOf
  split <;> simp <;> omega
theorem runsOf_new (m : Nat) (xs : List α) (x : α) (h : (runSt m xs).2 = []) : runsOf m (xs ++ [x]) = runsOf m xs ++ [[x]] := by
  have e : runsOf m xs = (runSt m xs).1 := by unfold runsOf; rw [h]; simp
  rw [e]
  unfold runsOf
  by_cases hl : (runSt m xs).2.length + 1 < m
  · rw [runSt_less m xs x hl, h]; simp
  · rw [runSt_full m xs x hl, h]; simp
theorem runsOf_more (m : Nat) (xs : List α) (x : α) (h : (runSt m xs).2 ≠ []) : runsOf m xs = (runSt m xs).1 ++ [(runSt m xs).2] ∧ runsOf m (xs ++ [x]) = (runSt m xs).1 ++ [(runSt m xs).2 ++ [x]] := by
  have h0 : (runSt m xs).2.length ≠ 0 := fun h' => h (List.eq_nil_of_length_eq_zero h')
  refine ⟨by unfold runsOf; rw [if_neg h0], ?_⟩
  unfold runsOf
  by_cases hl : (runSt m xs).2.length + 1 < m
  · rw [runSt_less m xs x hl]; simp
  · rw [runSt_full m xs x hl]; simp
end
/-- A slice of its own that holds a list. -/
def EncRow {α : Type} (t : TypeId) (D : α → Value) : EncR (List α) := fun c v G W => W.ownsRow 0 t 1 v c.length (c.map D) ∧ ∀ k, G k ↔ v.ownBlock = some k
theorem EncRow.ok {α : Type} (t : TypeId) (D : α → Value) (X : NSet) : EOk X (EncRow t D) := fun x v G W W' S h hk hS => ⟨ownsRow_kept h.1 hk (fun k h1 h2 => (hS k h2).1 ((h.2 k).2 h1)), h.2⟩
end Go.Proofs.Ytgeffdoepcbhiaa
