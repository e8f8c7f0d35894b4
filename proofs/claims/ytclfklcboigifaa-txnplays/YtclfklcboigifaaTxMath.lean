/-
  Books of transactions, pure.
-/
import Derived.Test.YtclfklcboigifaaRMath
import Derived.Test.YtclfklcboigifaaOMath
namespace Go.Proofs.Ytclfklcboigifaa
set_option linter.unusedSimpArgs false
set_option linter.unusedVariables false

section
variable {κ ν μ : Type} {lt : κ → κ → Bool} {l : List (κ × ν)} {k : κ}
/-- Each value through f. -/
def mapK (f : ν → μ) (l : List (κ × ν)) : List (κ × μ) := l.map fun e => (e.1, f e.2)
theorem mapK_len (f : ν → μ) (l : List (κ × ν)) : (mapK f l).length = l.length := by unfold mapK; rw [List.length_map]
theorem posK_map (f : ν → μ) (l : List (κ × ν)) (k : κ) : posK lt (mapK f l) k = posK lt l k := by
  unfold posK mapK
  induction l with
  | nil => rfl
  | cons x l ih =>
    simp only [List.map_cons, List.takeWhile_cons]
    split
    · simp only [List.length_cons]; rw [ih]
    · rfl
theorem hasK_map (f : ν → μ) (l : List (κ × ν)) (k : κ) : hasK lt (mapK f l) k = hasK lt l k := by
  unfold hasK
  rw [posK_map]
  unfold mapK
  rw [List.getElem?_map]
  cases l[posK lt l k]? <;> rfl
theorem putK_map (f : ν → μ) (l : List (κ × ν)) (k : κ) (v : ν) : putK lt (mapK f l) k (f v) = mapK f (putK lt l k v) := by
  unfold putK
  rw [hasK_map, posK_map]
  split
  · unfold mapK; rw [List.map_set]
  · unfold insK mapK; rw [List.map_append, List.map_take, List.map_cons, List.map_drop]
theorem delK_map (f : ν → μ) (l : List (κ × ν)) (k : κ) : delK lt (mapK f l) k = mapK f (delK lt l k) := by
  unfold delK
  rw [hasK_map, posK_map]
  split
  · unfold remK mapK; rw [List.map_append, List.map_take, List.map_drop]
  · rfl
/-- The value that a key has. -/
def valK (lt : κ → κ → Bool) (d : ν) (l : List (κ × ν)) (k : κ) : ν := if hasK lt l k then (l[posK lt l k]?.map (·.2)).getD d else d
theorem valK_map (f : ν → μ) (d : ν) (l : List (κ × ν)) (k : κ) : valK lt (f d) (mapK f l) k = f (valK lt d l k) := by
  unfold valK
  rw [hasK_map, posK_map]
  split
  · unfold mapK
    rw [List.getElem?_map]
    cases l[posK lt l k]? <;> rfl
  · rfl
theorem valK_mem {d : ν} (h : hasK lt l k = true) : ∃ j, (j, valK lt d l k) ∈ l := by
  have hlt := hasK_lt h
  unfold valK
  rw [if_pos h, List.getElem?_eq_getElem hlt]
  exact ⟨(l[posK lt l k]).1, by simp only [Option.map_some, Option.getD_some]; exact List.getElem_mem hlt⟩
theorem valK_cases (d : ν) (l : List (κ × ν)) (k : κ) : valK lt d l k = d ∨ ∃ j, (j, valK lt d l k) ∈ l := by
  by_cases h : hasK lt l k = true
  · exact .inr (valK_mem h)
  · left; unfold valK; rw [if_neg h]
end
/-- A book's transactions: by handles their writes. -/
abbrev Txs := List (Int × List Wr)
def okTx (c : Nat) (L : Txs) : Prop := ∀ x ∈ L, x.2.length ≤ c ∧ (∀ y ∈ x.2, y.B.length ≤ 64) ∧ Rising x.2
theorem okTx.nil (c : Nat) : okTx c [] := by intro x hx; cases hx
theorem okTx.mono {c d : Nat} {L : Txs} (h : okTx c L) (hd : c ≤ d) : okTx d L := fun x hx => ⟨Nat.le_trans (h x hx).1 hd, (h x hx).2⟩
theorem okTx.val {c : Nat} {L : Txs} (h : okTx c L) (k : Int) : (valK ltI [] L k).length ≤ c ∧ (∀ y ∈ valK ltI [] L k, y.B.length ≤ 64) ∧ Rising (valK ltI [] L k) := by
  rcases valK_cases (lt := ltI) [] L k with e | ⟨j, hj⟩
  · rw [e]; exact ⟨Nat.zero_le _, by simp, trivial⟩
  · exact h _ hj
theorem okTx.put {c : Nat} {L : Txs} (h : okTx c L) (k : Int) {l : List Wr} (h1 : l.length ≤ c) (h2 : ∀ y ∈ l, y.B.length ≤ 64) (h3 : Rising l) : okTx c (putK ltI L k l) := by
  intro x hx
  rcases mem_putK hx with rfl | hx
  · exact ⟨h1, h2, h3⟩
  · exact h x hx
theorem okTx.del {c : Nat} {L : Txs} (h : okTx c L) (k : Int) : okTx c (delK ltI L k) := fun x hx => h x (mem_delK hx)
/-- What a write is told, and what is there then. -/
def txErr (n : Int) (L : Txs) (h k : Int) : Int := if hasK ltI L h = false then 40 else if k < 0 ∨ n ≤ k then 41 else 0
def txWE (n : Int) (L : Txs) (h k : Int) (len : Nat) : Int := if txErr n L h k ≠ 0 then txErr n L h k else if len ≠ 64 then 42 else 0
def txW (L : Txs) (h k : Int) (B : List Nat) : Txs := putK ltI L h (mergeW (valK ltI [] L h ++ [⟨k, B⟩]))
theorem mergeW_le (l : List Wr) : (mergeW l).length ≤ l.length := by
  have h : ∀ (l m : List Wr), (l.foldl insW m).length ≤ m.length + l.length := by
    intro l
    induction l with
    | nil => intro m; simp
    | cons x l ih =>
      intro m
      have h1 : ∀ m : List Wr, (insW m x).length ≤ m.length + 1 := by
        intro m
        induction m with
        | nil => simp [insW]
        | cons y m ihm =>
          unfold insW
          split
          · simp
          · split
            · simp
            · simp only [List.length_cons]; omega
      have h2 := ih (insW m x)
      have h3 := h1 m
      simp only [List.foldl_cons, List.length_cons]
      omega
  have := h l []
  simpa [mergeW] using this
theorem mem_mergeW {all : List Wr} {x : Wr} (h : x ∈ mergeW all) : x ∈ all := (lastW_mem (mem_merge h)).1
theorem okTx.write {c : Nat} {L : Txs} (h : okTx c L) (t k : Int) {B : List Nat} (hB : B.length = 64) : okTx (c + 1) (txW L t k B) := by
  have hv := h.val t
  refine (h.mono (Nat.le_succ c)).put t ?_ ?_ (merge_rising _)
  · have := mergeW_le (valK ltI [] L t ++ [⟨k, B⟩])
    rw [List.length_append, List.length_singleton] at this
    have := hv.1
    omega
  · intro y hy
    rcases List.mem_append.1 (mem_mergeW hy) with h1 | h1
    · exact hv.2.1 y h1
    · rw [List.mem_singleton] at h1
      subst h1
      exact Nat.le_of_eq hB
/-- One more write of a merged list. -/
theorem merge_snoc {M : List Wr} (h : Rising M) (x : Wr) : mergeW (M ++ [x]) = insW M x := by
  have h1 : mergeW (M ++ [x]) = insW (mergeW M) x := by unfold mergeW; rw [List.foldl_append]; rfl
  rw [h1, merge_self h]
theorem insW_len : ∀ {M : List Wr} (x : Wr), Rising M → (insW M x).length = if (findW M x.blk).isSome then M.length else M.length + 1
  | [], x, _ => rfl
  | y :: M, x, h => by
    obtain ⟨hlow, hM⟩ := h
    rw [findW_cons]
    unfold insW
    by_cases h1 : x.blk < y.blk
    · have hne : ¬ y.blk = x.blk := by omega
      rw [if_pos h1, if_neg hne, findW_none (fun z hz => by have := hlow z hz; omega)]
      simp
    · rw [if_neg h1]
      by_cases h2 : x.blk = y.blk
      · rw [if_pos h2, if_pos h2.symm]; simp
      · have hne : ¬ y.blk = x.blk := fun e => h2 e.symm
        rw [if_neg h2, if_neg hne, List.length_cons, insW_len x hM]
        split <;> simp
end Go.Proofs.Ytclfklcboigifaa
