/-
  What the document's own functions answer of a sorted list, without memory.
-/
import Derived.Test.YtkchlmpfegjkfaaFloor
namespace Go.Proofs.Ytkchlmpfegjkfaa
set_option linter.unusedSimpArgs false
set_option linter.unusedVariables false

theorem at_keyI {l : List EntI} (hs : Sorted ltI l) {k : Int} {j : Nat} (hj : j < l.length) (h : l[j].1 = k) : posK ltI l k = j ∧ hasK ltI l k = true ∧ getKI l k = l[j].2 := by
  have hp : j = posK ltI l k := posK_eq (by omega) (fun i hi hij => by have := hs.get hi hj hij; rw [h] at this; exact this) (fun _ => by rw [h]; exact strictI.irr k)
  have hh : hasK ltI l k = true := (hasK_iff strictI hs).2 ⟨l[j].2, by rw [← h]; exact List.getElem_mem hj⟩
  refine ⟨hp.symm, hh, ?_⟩
  rw [getK_hasI hh]
  simp [← hp]
theorem no_keyI {l : List EntI} (hs : Sorted ltI l) {k : Int} (h : ∀ j (hj : j < l.length), l[j].1 ≠ k) : hasK ltI l k = false ∧ getKI l k = ⟨#[]⟩ := by
  have hh : hasK ltI l k = false := by
    cases hx : hasK ltI l k with
    | false => rfl
    | true => exact absurd (hasK_key strictI hx) (h _ (hasK_lt hx))
  exact ⟨hh, getK_notI hh⟩
theorem key_lt {l : List EntI} {k : Int} {j : Nat} (hj : j < l.length) (h : j < posK ltI l k) : l[j].1 < k := by
  have := lt_of_posK (lt := ltI) (k := k) l j hj h
  simpa [ltI] using this
theorem key_ge {l : List EntI} (hs : Sorted ltI l) {k : Int} {j : Nat} (hj : j < l.length) (h : posK ltI l k ≤ j) : k ≤ l[j].1 := by
  have hp : posK ltI l k < l.length := by omega
  have h1 := not_lt_posK (lt := ltI) (k := k) l hp
  simp only [ltI, decide_eq_false_iff_not] at h1
  by_cases e : posK ltI l k = j
  · subst e; omega
  · have := hs.get hp hj (by omega)
    simp only [ltI, decide_eq_true_eq] at this
    omega
theorem key_gt {l : List EntI} (hs : Sorted ltI l) {k : Int} {j : Nat} (hj : j < l.length) (h : posK ltI l k < j) : k < l[j].1 := by
  have hp : posK ltI l k < l.length := by omega
  have h1 := key_ge hs hp (Nat.le_refl _)
  have := hs.get hp hj h
  simp only [ltI, decide_eq_true_eq] at this
  omega
theorem key_eq_iff {l : List EntI} (hs : Sorted ltI l) {k : Int} {j : Nat} (hj : j < l.length) : l[j].1 = k ↔ (j = posK ltI l k ∧ hasK ltI l k = true) := by
  constructor
  · intro h
    have := at_keyI hs hj h
    exact ⟨this.1.symm, this.2.1⟩
  · rintro ⟨rfl, h⟩
    exact hasK_key strictI h
/-- Deleting, place by place. -/
theorem del_step {l : List EntI} (hs : Sorted ltI l) (k : Int) (j : Nat) (hj : j < l.length) : (l.take (j + 1)).filter (fun e => decide (e.1 ≠ k)) = (l.take j).filter (fun e => decide (e.1 ≠ k)) ++ (if l[j].1 = k then [] else [l[j]]) := by
  rw [List.take_succ_eq_append_getElem hj, List.filter_append]
  by_cases h : l[j].1 = k <;> simp [h]
theorem del_all {l : List EntI} (hs : Sorted ltI l) (k : Int) : l.filter (fun e => decide (e.1 ≠ k)) = delK ltI l k := by
  have hf : ∀ m : List EntI, (∀ x ∈ m, x.1 ≠ k) → m.filter (fun e => decide (e.1 ≠ k)) = m := fun m hm => by
    rw [List.filter_eq_self]
    intro x hx
    simpa using hm x hx
  unfold delK
  split
  · rename_i h
    have hl := hasK_lt h
    have e : l = l.take (posK ltI l k) ++ l[posK ltI l k] :: l.drop (posK ltI l k + 1) := by rw [List.getElem_cons_drop, List.take_append_drop]
    conv => lhs; rw [e]
    rw [List.filter_append, List.filter_cons]
    have hk := hasK_key strictI h
    rw [if_neg (by simp [hk]), hf _ (fun x hx => ?_), hf _ (fun x hx => ?_)]
    · rfl
    · obtain ⟨i, hi, rfl⟩ := List.getElem_of_mem hx
      simp only [List.length_drop] at hi
      simp only [List.getElem_drop]
      have := key_gt hs (k := k) (j := posK ltI l k + 1 + i) (by omega) (by omega)
      omega
    · obtain ⟨i, hi, rfl⟩ := List.getElem_of_mem hx
      simp only [List.length_take] at hi
      simp only [List.getElem_take]
      have := key_lt (l := l) (k := k) (j := i) (by omega) (by omega)
      omega
  · rename_i h
    refine hf _ (fun x hx e => h ?_)
    exact (hasK_iff strictI hs).2 ⟨x.2, by rw [← e]; exact hx⟩
/-- Putting, place by place: what has been made of the first j. -/
def putJ (l : List EntI) (k : Int) (v : ByteArray) (j : Nat) : List EntI := if j ≤ posK ltI l k then l.take j else (putK ltI l k v).take (if hasK ltI l k then j else j + 1)
def doneJ (l : List EntI) (k : Int) (j : Nat) : Bool := decide (posK ltI l k < j)
def newJ (l : List EntI) (k : Int) (j : Nat) : Bool := !(decide (posK ltI l k < j) && hasK ltI l k)
theorem putK_at (l : List EntI) (k : Int) (v : ByteArray) : ∀ i, (putK ltI l k v)[i]? = if hasK ltI l k then (if i = posK ltI l k then some (k, v) else l[i]?) else (if i < posK ltI l k then l[i]? else if i = posK ltI l k then some (k, v) else l[i - 1]?) := by
  intro i
  have hp := posK_le ltI l k
  unfold putK
  cases h : hasK ltI l k with
  | true =>
    simp only [if_true]
    by_cases e : i = posK ltI l k
    · subst e
      rw [List.getElem?_set_self (hasK_lt h)]
      simp
    · rw [List.getElem?_set_ne (fun h => e h.symm)]
      simp [e]
  | false =>
    simp only [Bool.false_eq_true, if_false]
    unfold insK
    have hlt : (l.take (posK ltI l k)).length = posK ltI l k := by simp; omega
    by_cases h1 : i < posK ltI l k
    · rw [List.getElem?_append_left (by omega), List.getElem?_take]
      simp [h1]
    · rw [List.getElem?_append_right (by omega), hlt]
      by_cases h2 : i = posK ltI l k
      · subst h2; simp
      · obtain ⟨m, hm⟩ : ∃ m, i - posK ltI l k = m + 1 := ⟨i - posK ltI l k - 1, by omega⟩
        rw [hm, List.getElem?_cons_succ, List.getElem?_drop]
        simp only [h1, h2, if_false]
        congr 1
        omega
theorem take_snoc? {α : Type} (l : List α) (i : Nat) (x : α) (h : l[i]? = some x) : l.take (i + 1) = l.take i ++ [x] := by
  obtain ⟨h1, h2⟩ := List.getElem?_eq_some_iff.1 h
  rw [List.take_succ_eq_append_getElem h1, h2]
/-- The first place whose key isn't below. -/
theorem put_mid1 {l : List EntI} (k : Int) (v : ByteArray) : l.take (posK ltI l k) ++ [(k, v)] = (putK ltI l k v).take (posK ltI l k + 1) := by
  have hp := posK_le ltI l k
  have h1 : (putK ltI l k v)[posK ltI l k]? = some (k, v) := by rw [putK_at]; split <;> simp
  rw [take_snoc? _ _ _ h1]
  congr 1
  apply List.ext_getElem?
  intro i
  rw [List.getElem?_take, List.getElem?_take]
  split
  · rename_i h
    rw [putK_at]
    simp [h, show ¬ i = posK ltI l k by omega]
  · rfl
theorem putJ_lo {l : List EntI} {k : Int} {v : ByteArray} {j : Nat} (hj : j < l.length) (h : j < posK ltI l k) : putJ l k v (j + 1) = putJ l k v j ++ [l[j]] := by
  unfold putJ
  rw [if_pos (by omega), if_pos (by omega), List.take_succ_eq_append_getElem hj]
theorem putJ_eq {l : List EntI} {k : Int} {v : ByteArray} (hj : posK ltI l k < l.length) (h : hasK ltI l k = true) : putJ l k v (posK ltI l k + 1) = putJ l k v (posK ltI l k) ++ [(k, v)] := by
  unfold putJ
  rw [if_neg (by omega), if_pos (Nat.le_refl _), h, if_pos rfl, put_mid1]
theorem putJ_ne {l : List EntI} {k : Int} {v : ByteArray} (hj : posK ltI l k < l.length) (h : hasK ltI l k = false) : putJ l k v (posK ltI l k + 1) = putJ l k v (posK ltI l k) ++ [(k, v)] ++ [l[posK ltI l k]] := by
  have h2 : (putK ltI l k v)[posK ltI l k + 1]? = some l[posK ltI l k] := by
    rw [putK_at, h]
    simp [hj, show ¬ posK ltI l k + 1 < posK ltI l k by omega]
  unfold putJ
  rw [if_neg (by omega), if_pos (Nat.le_refl _), h, put_mid1]
  simp only [Bool.false_eq_true, if_false]
  exact take_snoc? _ _ _ h2
theorem putJ_hi {l : List EntI} {k : Int} {v : ByteArray} {j : Nat} (hj : j < l.length) (h : posK ltI l k < j) : putJ l k v (j + 1) = putJ l k v j ++ [l[j]] := by
  have e1 : ¬ j + 1 ≤ posK ltI l k := by omega
  have e2 : ¬ j ≤ posK ltI l k := by omega
  unfold putJ
  simp only [e1, e2, if_false]
  cases hh : hasK ltI l k with
  | true =>
    simp only [if_true]
    refine take_snoc? _ _ _ ?_
    rw [putK_at, hh]
    simp [show ¬ j = posK ltI l k by omega, hj]
  | false =>
    simp only [Bool.false_eq_true, if_false]
    refine take_snoc? _ _ _ ?_
    rw [putK_at, hh]
    simp [show ¬ j + 1 < posK ltI l k by omega, show ¬ j + 1 = posK ltI l k by omega, hj]
theorem putJ_zero (l : List EntI) (k : Int) (v : ByteArray) : putJ l k v 0 = [] := by simp [putJ]
theorem putJ_end {l : List EntI} {k : Int} {v : ByteArray} : (if doneJ l k l.length then putJ l k v l.length else putJ l k v l.length ++ [(k, v)]) = putK ltI l k v ∧ newJ l k l.length = !hasK ltI l k := by
  have hp := posK_le ltI l k
  unfold doneJ newJ
  by_cases h : posK ltI l k < l.length
  · simp only [h, decide_true, if_true, Bool.true_and]
    refine ⟨?_, trivial⟩
    unfold putJ
    rw [if_neg (by omega)]
    apply List.take_of_length_le
    have := putK_length ltI l k v
    split
    · rename_i hh
      simp [putK, hh]
    · omega
  · have e : posK ltI l k = l.length := by omega
    have hh : hasK ltI l k = false := hasK_ge h
    simp only [h, decide_false, Bool.false_eq_true, if_false, Bool.false_and, hh, Bool.not_false, and_true]
    have := put_mid1 (l := l) k v
    unfold putJ
    rw [if_pos (by omega), List.take_of_length_le (Nat.le_refl _)]
    rw [e, List.take_of_length_le (Nat.le_refl _)] at this
    rw [this]
    apply List.take_of_length_le
    exact (putK_length ltI l k v).1
/-- How many keys aren't above k. -/
def cntI (l : List EntI) (k : Int) : Nat := if hasK ltI l k then posK ltI l k + 1 else posK ltI l k
theorem cnt_le (l : List EntI) (k : Int) : cntI l k ≤ l.length := by
  unfold cntI
  split
  · rename_i h; have := hasK_lt h; omega
  · exact posK_le _ _ _
theorem cnt_iff {l : List EntI} (hs : Sorted ltI l) {k : Int} {j : Nat} (hj : j < l.length) : l[j].1 ≤ k ↔ j < cntI l k := by
  unfold cntI
  constructor
  · intro h
    rcases Nat.lt_trichotomy j (posK ltI l k) with h1 | h1 | h1
    · split <;> omega
    · subst h1
      have := key_ge hs hj (Nat.le_refl _)
      have hh := (at_keyI hs hj (k := k) (by omega)).2.1
      rw [if_pos hh]
      omega
    · have := key_gt hs hj h1
      omega
  · intro h
    split at h
    · rename_i hh
      by_cases e : j = posK ltI l k
      · subst e
        have := hasK_key strictI hh
        omega
      · have := key_lt (l := l) (k := k) hj (by omega)
        omega
    · have := key_lt (l := l) (k := k) hj h
      omega
/-- The last of the first j that isn't above k. -/
def floJ (l : List EntI) (k : Int) (j : Nat) : Option EntI := if min j (cntI l k) = 0 then none else l[min j (cntI l k) - 1]?
theorem floJ_end (l : List EntI) (k : Int) : floJ l k l.length = floorI l k := by
  have := cnt_le l k
  unfold floJ
  rw [Nat.min_eq_right this]
  unfold cntI floorI
  split <;> rename_i h
  · simp
  · simp
theorem floJ_lo {l : List EntI} {k : Int} {j : Nat} (hj : j < l.length) (h : j < cntI l k) : floJ l k (j + 1) = some l[j] := by
  unfold floJ
  rw [Nat.min_eq_left (by omega), if_neg (by omega)]
  simp [hj]
theorem floJ_hi {l : List EntI} {k : Int} {j : Nat} (h : ¬ j < cntI l k) : floJ l k (j + 1) = floJ l k j := by
  unfold floJ
  rw [Nat.min_eq_right (by omega), Nat.min_eq_right (by omega)]

end Go.Proofs.Ytkchlmpfegjkfaa
