/-
  Writes that are merged, records and their bytes: plain functions over lists. No condition beyond each law's own premises.
-/
import Derived.Test.YtclfklcboigifaaFMath
namespace Go.Proofs.Ytclfklcboigifaa
set_option linter.unusedSimpArgs false
set_option linter.unusedVariables false
set_option maxRecDepth 100000

structure Wr where
  blk : Int
  B : List Nat
/-- Rising by block. -/
def Rising : List Wr → Prop
  | [] => True
  | x :: m => (∀ y ∈ m, x.blk < y.blk) ∧ Rising m
def insW : List Wr → Wr → List Wr
  | [], w => [w]
  | x :: m, w => if w.blk < x.blk then w :: x :: m else if w.blk = x.blk then w :: m else x :: insW m w
def mergeW (all : List Wr) : List Wr := all.foldl insW []
def findW (m : List Wr) (k : Int) : Option Wr := m.find? (fun w => w.blk == k)
/-- The last write of a block. -/
def lastW : List Wr → Int → Option Wr
  | [], _ => none
  | w :: l, k => (lastW l k).or (if w.blk = k then some w else none)
theorem findW_cons (x : Wr) (m : List Wr) (k : Int) : findW (x :: m) k = if x.blk = k then some x else findW m k := by
  unfold findW
  rw [List.find?_cons]
  by_cases h : x.blk = k
  · simp [h]
  · have : (x.blk == k) = false := by simpa using h
    rw [this, if_neg h]
theorem findW_none {m : List Wr} {k : Int} (h : ∀ y ∈ m, y.blk ≠ k) : findW m k = none := by
  unfold findW
  rw [List.find?_eq_none]
  intro y hy
  simpa using h y hy
theorem findW_some {m : List Wr} {k : Int} {w : Wr} (h : findW m k = some w) : w ∈ m ∧ w.blk = k := by
  unfold findW at h
  exact ⟨List.mem_of_find?_eq_some h, by simpa using List.find?_some h⟩
theorem mem_insW : ∀ {m : List Wr} {w y : Wr}, y ∈ insW m w → y = w ∨ y ∈ m
  | [], w, y, h => by simp [insW] at h; exact .inl h
  | x :: m, w, y, h => by
    unfold insW at h
    split at h
    · simpa using h
    · split at h
      · rcases List.mem_cons.1 h with h | h
        · exact .inl h
        · exact .inr (List.mem_cons_of_mem _ h)
      · rcases List.mem_cons.1 h with h | h
        · exact .inr (by rw [h]; simp)
        · rcases mem_insW h with h | h
          · exact .inl h
          · exact .inr (List.mem_cons_of_mem _ h)
theorem insW_rising : ∀ {m : List Wr} (w : Wr), Rising m → Rising (insW m w)
  | [], w, _ => by simp [insW, Rising]
  | x :: m, w, h => by
    obtain ⟨h1, h2⟩ := h
    unfold insW
    split
    · rename_i hlt
      refine ⟨fun y hy => ?_, h1, h2⟩
      rcases List.mem_cons.1 hy with rfl | hy
      · exact hlt
      · have := h1 y hy; omega
    · split
      · rename_i hlt heq
        exact ⟨fun y hy => by have := h1 y hy; omega, h2⟩
      · rename_i hlt hne
        refine ⟨fun y hy => ?_, insW_rising w h2⟩
        rcases mem_insW hy with rfl | hy
        · omega
        · exact h1 y hy
theorem insW_find : ∀ {m : List Wr} (w : Wr) (k : Int), Rising m → findW (insW m w) k = if w.blk = k then some w else findW m k
  | [], w, k, _ => by simp only [insW]; rw [findW_cons]
  | x :: m, w, k, h => by
    obtain ⟨h1, h2⟩ := h
    unfold insW
    split
    · rw [findW_cons]
    · split
      · rename_i hlt heq
        rw [findW_cons, findW_cons]
        by_cases hk : w.blk = k
        · simp [hk]
        · rw [if_neg hk, if_neg hk, if_neg (by omega)]
      · rename_i hlt hne
        rw [findW_cons, findW_cons, insW_find w k h2]
        by_cases hx : x.blk = k
        · rw [if_pos hx, if_pos hx, if_neg (by omega)]
        · rw [if_neg hx, if_neg hx]
theorem fold_rising : ∀ (l m : List Wr), Rising m → Rising (l.foldl insW m)
  | [], m, h => h
  | w :: l, m, h => fold_rising l _ (insW_rising w h)
theorem merge_rising (all : List Wr) : Rising (mergeW all) := fold_rising all [] trivial
theorem fold_find (k : Int) : ∀ (l m : List Wr), Rising m → findW (l.foldl insW m) k = (lastW l k).or (findW m k)
  | [], m, h => by simp [lastW]
  | w :: l, m, h => by
    rw [List.foldl_cons, fold_find k l _ (insW_rising w h), insW_find w k h, lastW]
    cases lastW l k with
    | some y => simp
    | none =>
      by_cases hw : w.blk = k
      · simp [hw]
      · simp [hw]
theorem merge_find (all : List Wr) (k : Int) : findW (mergeW all) k = lastW all k := by
  unfold mergeW
  rw [fold_find k all [] trivial]
  simp [findW]
theorem rising_last : ∀ {m : List Wr} (k : Int), Rising m → lastW m k = findW m k
  | [], k, _ => rfl
  | x :: m, k, h => by
    rw [lastW, findW_cons, rising_last k h.2]
    by_cases hx : x.blk = k
    · rw [if_pos hx, if_pos hx, findW_none (fun y hy => by have := h.1 y hy; omega)]
      rfl
    · rw [if_neg hx, if_neg hx]
      cases findW m k <;> rfl
theorem rising_ext : ∀ {a b : List Wr}, Rising a → Rising b → (∀ k, findW a k = findW b k) → a = b
  | [], [], _, _, _ => rfl
  | [], y :: b, _, _, h => by
    have := h y.blk
    rw [findW_cons] at this
    simp [findW] at this
  | x :: a, [], _, _, h => by
    have := h x.blk
    rw [findW_cons] at this
    simp [findW] at this
  | x :: a, y :: b, ha, hb, h => by
    have hx := h x.blk
    have hy := h y.blk
    rw [findW_cons, findW_cons, if_pos rfl] at hx
    rw [findW_cons, findW_cons, if_pos rfl] at hy
    have hxy : x = y := by
      by_cases he : y.blk = x.blk
      · rw [if_pos he] at hx
        exact Option.some.inj hx
      · exfalso
        rw [if_neg he] at hx
        rw [if_neg (fun e => he e.symm)] at hy
        have m1 := findW_some hx.symm
        have m2 := findW_some hy
        have := hb.1 x m1.1
        have := ha.1 y m2.1
        omega
    subst hxy
    have : a = b := rising_ext ha.2 hb.2 (fun k => by
      have hk := h k
      rw [findW_cons, findW_cons] at hk
      by_cases hkx : x.blk = k
      · rw [findW_none (fun y hy => by have := ha.1 y hy; omega), findW_none (fun y hy => by have := hb.1 y hy; omega)]
      · rw [if_neg hkx, if_neg hkx] at hk
        exact hk)
    rw [this]
theorem lastW_append (a b : List Wr) (k : Int) : lastW (a ++ b) k = (lastW b k).or (lastW a k) := by
  induction a with
  | nil => simp [lastW]
  | cons x a ih => rw [List.cons_append, lastW, lastW, ih]; cases lastW b k <;> simp
theorem lastW_merge (all : List Wr) (k : Int) : lastW (mergeW all) k = lastW all k := by rw [rising_last k (merge_rising all), merge_find]
/-- Merging again changes nothing. -/
theorem merge_self {m : List Wr} (h : Rising m) : mergeW m = m := rising_ext (merge_rising m) h (fun k => by rw [merge_find, rising_last k h])
theorem merge_ext {a b : List Wr} (h : ∀ k, lastW a k = lastW b k) : mergeW a = mergeW b := rising_ext (merge_rising a) (merge_rising b) (fun k => by rw [merge_find, merge_find, h])
theorem merge_left (a b : List Wr) : mergeW (mergeW a ++ b) = mergeW (a ++ b) := merge_ext (fun k => by rw [lastW_append, lastW_append, lastW_merge])
theorem merge_right (a b : List Wr) : mergeW (a ++ mergeW b) = mergeW (a ++ b) := merge_ext (fun k => by rw [lastW_append, lastW_append, lastW_merge])

/-- The reference's choice: the least block above lo, the last one of it. -/
def okW (lo : Option Int) (w : Wr) : Bool := match lo with
  | none => true
  | some l => decide (l < w.blk)
def bestW (lo : Option Int) : List Wr → Option Wr → Option Wr
  | [], b => b
  | w :: l, b => bestW lo l (if okW lo w = true ∧ (∀ x, b = some x → w.blk ≤ x.blk) then some w else b)
/-- What bestW is: among those above lo the least, and of it the last one. -/
theorem bestW_spec (lo : Option Int) : ∀ (l : List Wr) (b : Option Wr), (∀ x, b = some x → okW lo x = true) →
    (bestW lo l b = none → b = none ∧ ∀ w ∈ l, okW lo w = false) ∧
    (∀ x, bestW lo l b = some x → okW lo x = true ∧ (∀ w ∈ l, okW lo w = true → x.blk ≤ w.blk) ∧ (∀ y, b = some y → x.blk ≤ y.blk) ∧ (lastW l x.blk = some x ∨ (lastW l x.blk = none ∧ b = some x)))
  | [], b, hb => by
    refine ⟨fun h => ⟨h, by simp⟩, fun x h => ?_⟩
    simp only [bestW] at h
    exact ⟨hb x h, by simp, fun y hy => by rw [h] at hy; cases hy; omega, .inr ⟨rfl, h⟩⟩
  | w :: l, b, hb => by
    simp only [bestW]
    by_cases hc : okW lo w = true ∧ ∀ x, b = some x → w.blk ≤ x.blk
    · rw [if_pos hc]
      obtain ⟨h1, h2⟩ := bestW_spec lo l (some w) (fun x e => by cases e; exact hc.1)
      refine ⟨fun h => (by have := (h1 h).1; cases this), fun x h => ?_⟩
      obtain ⟨k1, k2, k3, k4⟩ := h2 x h
      have hxw := k3 w rfl
      refine ⟨k1, ?_, fun y hy => by have := hc.2 y hy; omega, .inl ?_⟩
      · intro z hz hzo
        rcases List.mem_cons.1 hz with rfl | hz
        · exact hxw
        · exact k2 z hz hzo
      · rw [lastW]
        rcases k4 with k4 | ⟨k4, k5⟩
        · rw [k4]; rfl
        · cases k5; rw [k4, if_pos rfl]; rfl
    · rw [if_neg hc]
      obtain ⟨h1, h2⟩ := bestW_spec lo l b hb
      refine ⟨fun h => ?_, fun x h => ?_⟩
      · obtain ⟨k1, k2⟩ := h1 h
        refine ⟨k1, fun z hz => ?_⟩
        rcases List.mem_cons.1 hz with rfl | hz
        · cases hz2 : okW lo z with
          | false => rfl
          | true => exact absurd ⟨hz2, fun x e => by rw [k1] at e; cases e⟩ hc
        · exact k2 z hz
      · obtain ⟨k1, k2, k3, k4⟩ := h2 x h
        have hw : okW lo w = true → x.blk < w.blk := fun hw => by
          rcases Classical.em (∀ y, b = some y → w.blk ≤ y.blk) with hh | hh
          · exact absurd ⟨hw, hh⟩ hc
          · simp only [Classical.not_forall] at hh
            obtain ⟨y, hy, hn⟩ := hh
            have := k3 y hy
            omega
        refine ⟨k1, ?_, k3, ?_⟩
        · intro z hz hzo
          rcases List.mem_cons.1 hz with rfl | hz
          · have := hw hzo; omega
          · exact k2 z hz hzo
        · have hne : w.blk ≠ x.blk := fun e => by
            have ho : okW lo w = true := by
              unfold okW at k1 ⊢
              cases lo with
              | none => rfl
              | some q => simp at k1 ⊢; omega
            have := hw ho
            omega
          rw [lastW, if_neg hne]
          rcases k4 with k4 | ⟨k4, k5⟩
          · exact .inl (by rw [k4]; rfl)
          · exact .inr ⟨by rw [k4]; rfl, k5⟩
theorem rising_append : ∀ {a b : List Wr}, Rising (a ++ b) → Rising a ∧ Rising b ∧ ∀ x ∈ a, ∀ y ∈ b, x.blk < y.blk
  | [], b, h => ⟨trivial, h, by simp⟩
  | x :: a, b, h => by
    obtain ⟨h1, h2⟩ := h
    obtain ⟨k1, k2, k3⟩ := rising_append h2
    refine ⟨⟨fun y hy => h1 y (List.mem_append_left _ hy), k1⟩, k2, fun z hz y hy => ?_⟩
    rcases List.mem_cons.1 hz with rfl | hz
    · exact h1 y (List.mem_append_right _ hy)
    · exact k3 z hz y hy
def lastBlk (out : List Wr) : Option Int := out.getLast?.map Wr.blk
theorem mem_merge {all : List Wr} {w : Wr} (h : w ∈ mergeW all) : lastW all w.blk = some w := by
  rw [← lastW_merge, rising_last _ (merge_rising all)]
  have hr := merge_rising all
  generalize mergeW all = m at *
  induction m with
  | nil => simp at h
  | cons x m ih =>
    rw [findW_cons]
    rcases List.mem_cons.1 h with rfl | h
    · rw [if_pos rfl]
    · rw [if_neg (by have := hr.1 w h; omega)]
      exact ih h hr.2
theorem lastW_mem {l : List Wr} {k : Int} {w : Wr} (h : lastW l k = some w) : w ∈ l ∧ w.blk = k := by
  induction l with
  | nil => simp [lastW] at h
  | cons x l ih =>
    rw [lastW] at h
    cases hl : lastW l k with
    | some y => rw [hl] at h; simp at h; subst h; have := ih hl; exact ⟨List.mem_cons_of_mem _ this.1, this.2⟩
    | none =>
      rw [hl] at h
      simp at h
      exact ⟨by rw [h.2]; simp, by rw [← h.2]; exact h.1⟩
theorem lastW_some {l : List Wr} {w : Wr} (h : w ∈ l) : ∃ x, lastW l w.blk = some x := by
  induction l with
  | nil => simp at h
  | cons y l ih =>
    rw [lastW]
    rcases List.mem_cons.1 h with rfl | h
    · cases lastW l w.blk <;> simp
    · obtain ⟨x, hx⟩ := ih h
      rw [hx]; simp
/-- The reference's next one is the next of the merged list. -/
theorem best_next {all out : List Wr} {rest : List Wr} (h : mergeW all = out ++ rest) : bestW (lastBlk out) all none = rest.head? := by
  have hr := merge_rising all
  rw [h] at hr
  obtain ⟨r1, r2, r3⟩ := rising_append hr
  have hab : ∀ w, okW (lastBlk out) w = true ↔ ∀ x ∈ out, x.blk < w.blk := by
    intro w
    unfold okW lastBlk
    cases hl : out.getLast? with
    | none =>
      rw [List.getLast?_eq_none_iff] at hl
      subst hl
      simp
    | some z =>
      obtain ⟨pre, rfl⟩ : ∃ pre, out = pre ++ [z] := by
        rw [List.getLast?_eq_some_iff] at hl
        exact hl
      have hz := (rising_append r1).2.2
      simp only [Option.map_some, decide_eq_true_eq]
      refine ⟨fun hlt x hx => ?_, fun hh => hh z (by simp)⟩
      rcases List.mem_append.1 hx with hx | hx
      · have := hz x hx z (by simp); omega
      · simp at hx; rw [hx]; exact hlt
  obtain ⟨s1, s2⟩ := bestW_spec (lastBlk out) all none (fun x e => by cases e)
  cases hb : bestW (lastBlk out) all none with
  | none =>
    obtain ⟨_, hno⟩ := s1 hb
    cases rest with
    | nil => rfl
    | cons y rest =>
      exfalso
      have hy : y ∈ mergeW all := by rw [h]; simp
      have hya := (lastW_mem (mem_merge hy)).1
      have := hno y hya
      have hyo := (hab y).2 (fun x hx => r3 x hx y (by simp))
      rw [hyo] at this
      cases this
  | some x =>
    obtain ⟨k1, k2, -, k4⟩ := s2 x hb
    have hx4 : lastW all x.blk = some x := by
      rcases k4 with k4 | ⟨_, k5⟩
      · exact k4
      · cases k5
    have hxm : x ∈ mergeW all := by
      have := merge_find all x.blk
      rw [hx4] at this
      exact (findW_some this).1
    rw [h] at hxm
    have hxo := (hab x).1 k1
    have hxr : x ∈ rest := by
      rcases List.mem_append.1 hxm with hm | hm
      · have := hxo x hm; omega
      · exact hm
    cases rest with
    | nil => simp at hxr
    | cons y rest =>
      rcases List.mem_cons.1 hxr with rfl | hxr
      · rfl
      · exfalso
        have hlt := r2.1 x hxr
        have hy : y ∈ mergeW all := by rw [h]; simp
        have hya := (lastW_mem (mem_merge hy)).1
        have := k2 y hya ((hab y).2 (fun z hz => r3 z hz y (by simp)))
        omega
end Go.Proofs.Ytclfklcboigifaa
