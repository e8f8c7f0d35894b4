/-
  Writes that are merged, records and their bytes: plain functions over lists. No condition beyond each law's own premises.
-/
import Derived.Test.YtnlcmgdeohbmoaaJ04
import Derived.Test.YtnlcmgdeohbmoaaJ01
namespace Go.Proofs.Ytnlcmgdeohbmoaa
set_option linter.unusedSimpArgs false
set_option linter.unusedVariables false
set_option maxRecDepth 100000

structure Wr where
  blk : Int
  B : List Nat
/-- Rising by block. -/
def Rising : List Wr → Prop
  | [] => True
  | x :: m => (∀ y ∈ m, x.blk < y.blk) ∧ Rising m
def insW : List Wr → Wr → List Wr
  | [], w => [w]
  | x :: m, w => if w.blk < x.blk then w :: x :: m else if w.blk = x.blk then w :: m else x :: insW m w
def mergeW (all : List Wr) : List Wr := all.foldl insW []
def findW (m : List Wr) (k : Int) : Option Wr := m.find? (fun w => w.blk == k)
/-- The last write of a block. -/
def lastW : List Wr → Int → Option Wr
  | [], _ => none
  | w :: l, k => (lastW l k).or (if w.blk = k then some w else none)
theorem findW_cons (x : Wr) (m : List Wr) (k : Int) : findW (x :: m) k = if x.blk = k then some x else findW m k := by
  unfold findW
  rw [List.find?_cons]
  by_cases h : x.blk = k
  · simp [h]
  · have : (x.blk == k) = false := by simpa using h
    rw [this, if_neg h]
theorem findW_none {m : List Wr} {k : Int} (h : ∀ y ∈ m, y.blk ≠ k) : findW m k = none := by
  unfold findW
  rw [List.find?_eq_none]
  intro y hy
  simpa using h y hy
theorem findW_some {m : List Wr} {k : Int} {w : Wr} (h : findW m k = some w) : w ∈ m ∧ w.blk = k := by
  unfold findW at h
  exact ⟨List.mem_of_find?_eq_some h, by simpa using List.find?_some h⟩
theorem mem_insW : ∀ {m : List Wr} {w y : Wr}, y ∈ insW m w → y = w ∨ y ∈ m
  | [], w, y, h => by simp [insW] at h; exact .inl h
  | x :: m, w, y, h => by
    unfold insW at h
    split at h
    · simpa using h
    · split at h
      · rcases List.mem_cons.1 h with h | h
        · exact .inl h
        · exact .inr (List.mem_cons_of_mem _ h)
      · rcases List.mem_cons.1 h with h | h
        · exact .inr (by rw [h]; simp)
        · rcases mem_insW h with h | h
          · exact .inl h
          · exact .inr (List.mem_cons_of_mem _ h)
theorem insW_rising : ∀ {m : List Wr} (w : Wr), Rising m → Rising (insW m w)
  | [], w, _ => by simp [insW, Rising]
  | x :: m, w, h => by
    obtain ⟨h1, h2⟩ := h
    unfold insW
    split
    · rename_i hlt
      refine ⟨fun y hy => ?_, h1, h2⟩
      rcases List.mem_cons.1 hy with rfl | hy
      · exact hlt
      · have := h1 y hy; omega
    · split
      · rename_i hlt heq
        exact ⟨fun y hy => by have := h1 y hy; omega, h2⟩
      · rename_i hlt hne
        refine ⟨fun y hy => ?_, insW_rising w h2⟩
        rcases mem_insW hy with rfl | hy
        · omega
        · exact h1 y hy
theorem insW_find : ∀ {m : List Wr} (w : Wr) (k : Int), Rising m → findW (insW m w) k = if w.blk = k then some w else findW m k
  | [], w, k, _ => by simp only [insW]; rw [findW_cons]
  | x :: m, w, k, h => by
    obtain ⟨h1, h2⟩ := h
    unfold insW
    split
    · rw [findW_cons]
    · split
      · rename_i hlt heq
        rw [findW_cons, findW_cons]
        by_cases hk : w.blk = k
        · simp [hk]
        · rw [if_neg hk, if_neg hk, if_neg (by omega)]
      · rename_i hlt hne
        rw [findW_cons, findW_cons, insW_find w k h2]
        by_cases hx : x.blk = k
        · rw [if_pos hx, if_pos hx, if_neg (by omega)]
        · rw [if_neg hx, if_neg hx]
theorem fold_rising : ∀ (l m : List Wr), Rising m → Rising (l.foldl insW m)
  | [], m, h => h
  | w :: l, m, h => fold_rising l _ (insW_rising w h)
theorem merge_rising (all : List Wr) : Rising (mergeW all) := fold_rising all [] trivial
theorem fold_find (k : Int) : ∀ (l m : List Wr), Rising m → findW (l.foldl insW m) k = (lastW l k).or (findW m k)
  | [], m, h => by simp [lastW]
  | w :: l, m, h => by
    rw [List.foldl_cons, fold_find k l _ (insW_rising w h), insW_find w k h, lastW]
    cases lastW l k with
    | some y => simp
    | none =>
      by_cases hw : w.blk = k
      · simp [hw]
      · simp [hw]
theorem merge_find (all : List Wr) (k : Int) : findW (mergeW all) k = lastW all k := by
  unfold mergeW
  rw [fold_find k all [] trivial]
  simp [findW]
theorem rising_last : ∀ {m : List Wr} (k : Int), Rising m → lastW m k = findW m k
  | [], k, _ => rfl
  | x :: m, k, h => by
    rw [lastW, findW_cons, rising_last k h.2]
    by_cases hx : x.blk = k
    · rw [if_pos hx, if_pos hx, findW_none (fun y hy => by have := h.1 y hy; omega)]
      rfl
    · rw [if_neg hx, if_neg hx]
      cases findW m k <;> rfl
theorem rising_ext : ∀ {a b : List Wr}, Rising a → Rising b → (∀ k, findW a k = findW b k) → a = b
  | [], [], _, _, _ => rfl
  | [], y :: b, _, _, h => by
    have := h y.blk
    rw [findW_cons] at this
    simp [findW] at this
  | x :: a, [], _, _, h => by
    have := h x.blk
    rw [findW_cons] at this
    simp [findW] at this
  | x :: a, y :: b, ha, hb, h => by
    have hx := h x.blk
    have hy := h y.blk
    rw [findW_cons, findW_cons, if_pos rfl] at hx
    rw [findW_cons, findW_cons, if_pos rfl] at hy
    have hxy : x = y := by
      by_cases he : y.blk = x.blk
      · rw [if_pos he] at hx
        exact Option.some.inj hx
      · exfalso
        rw [if_neg he] at hx
        rw [if_neg (fun e => he e.symm)] at hy
        have m1 := findW_some hx.symm
        have m2 := findW_some hy
        have := hb.1 x m1.1
        have := ha.1 y m2.1
        omega
    subst hxy
    have : a = b := rising_ext ha.2 hb.2 (fun k => by
      have hk := h k
      rw [findW_cons, findW_cons] at hk
      by_cases hkx : x.blk = k
      · rw [findW_none (fun y hy => by have := ha.1 y hy; omega), findW_none (fun y hy => by have := hb.1 y hy; omega)]
      · rw [if_neg hkx, if_neg hkx] at hk
        exact hk)
    rw [this]
theorem lastW_append (a b : List Wr) (k : Int) : lastW (a ++ b) k = (lastW b k).or (lastW a k) := by
  induction a with
  | nil => simp [lastW]
  | cons x a ih => rw [List.cons_append, lastW, lastW, ih]; cases lastW b k <;> simp
theorem lastW_merge (all : List Wr) (k : Int) : lastW (mergeW all) k = lastW all k := by rw [rising_last k (merge_rising all), merge_find]
/-- Merging again changes nothing. -/
theorem merge_self {m : List Wr} (h : Rising m) : mergeW m = m := rising_ext (merge_rising m) h (fun k => by rw [merge_find, rising_last k h])
theorem merge_ext {a b : List Wr} (h : ∀ k, lastW a k = lastW b k) : mergeW a = mergeW b := rising_ext (merge_rising a) (merge_rising b) (fun k => by rw [merge_find, merge_find, h])
theorem merge_left (a b : List Wr) : mergeW (mergeW a ++ b) = mergeW (a ++ b) := merge_ext (fun k => by rw [lastW_append, lastW_append, lastW_merge])
theorem merge_right (a b : List Wr) : mergeW (a ++ mergeW b) = mergeW (a ++ b) := merge_ext (fun k => by rw [lastW_append, lastW_append, lastW_merge])

/-- The reference's choice: the least block above lo, the last one of it. -/
def okW (lo : Option Int) (w : Wr) : Bool := match lo with
  | none => true
  | some l => decide (l < w.blk)
def bestW (lo : Option Int) : List Wr → Option Wr → Option Wr
  | [], b => b
  | w :: l, b => bestW lo l (if okW lo w = true ∧ (∀ x, b = some x → w.blk ≤ x.blk) then some w else b)
/-- What bestW is: among those above lo the least, and of it the last one. -/
theorem bestW_spec (lo : Option Int) : ∀ (l : List Wr) (b : Option Wr), (∀ x, b = some x → okW lo x = true) →
    (bestW lo l b = none → b = none ∧ ∀ w ∈ l, okW lo w = false) ∧
    (∀ x, bestW lo l b = some x → okW lo x = true ∧ (∀ w ∈ l, okW lo w = true → x.blk ≤ w.blk) ∧ (∀ y, b = some y → x.blk ≤ y.blk) ∧ (lastW l x.blk = some x ∨ (lastW l x.blk = none ∧ b = some x)))
  | [], b, hb => by
    refine ⟨fun h => ⟨h, by simp⟩, fun x h => ?_⟩
    simp only [bestW] at h
    exact ⟨hb x h, by simp, fun y hy => by rw [h] at hy; cases hy; omega, .inr ⟨rfl, h⟩⟩
  | w :: l, b, hb => by
    simp only [bestW]
    by_cases hc : okW lo w = true ∧ ∀ x, b = some x → w.blk ≤ x.blk
    · rw [if_pos hc]
      obtain ⟨h1, h2⟩ := bestW_spec lo l (some w) (fun x e => by cases e; exact hc.1)
      refine ⟨fun h => (by have := (h1 h).1; cases this), fun x h => ?_⟩
      obtain ⟨k1, k2, k3, k4⟩ := h2 x h
      have hxw := k3 w rfl
      refine ⟨k1, ?_, fun y hy => by have := hc.2 y hy; omega, .inl ?_⟩
      · intro z hz hzo
        rcases List.mem_cons.1 hz with rfl | hz
        · exact hxw
        · exact k2 z hz hzo
      · rw [lastW]
        rcases k4 with k4 | ⟨k4, k5⟩
        · rw [k4]; rfl
        · cases k5; rw [k4, if_pos rfl]; rfl
    · rw [if_neg hc]
      obtain ⟨h1, h2⟩ := bestW_spec lo l b hb
      refine ⟨fun h => ?_, fun x h => ?_⟩
      · obtain ⟨k1, k2⟩ := h1 h
        refine ⟨k1, fun z hz => ?_⟩
        rcases List.mem_cons.1 hz with rfl | hz
        · cases hz2 : okW lo z with
          | false => rfl
          | true => exact absurd ⟨hz2, fun x e => by rw [k1] at e; cases e⟩ hc
        · exact k2 z hz
      · obtain ⟨k1, k2, k3, k4⟩ := h2 x h
        have hw : okW lo w = true → x.blk < w.blk := fun hw => by
          rcases Classical.em (∀ y, b = some y → w.blk ≤ y.blk) with hh | hh
          · exact absurd ⟨hw, hh⟩ hc
          · simp only [Classical.not_forall] at hh
            obtain ⟨y, hy, hn⟩ := hh
            have := k3 y hy
            omega
        refine ⟨k1, ?_, k3, ?_⟩
        · intro z hz hzo
          rcases List.mem_cons.1 hz with rfl | hz
          · have := hw hzo; omega
          · exact k2 z hz hzo
        · have hne : w.blk ≠ x.blk := fun e => by
            have ho : okW lo w = true := by
              unfold okW at k1 ⊢
              cases lo with
              | none => rfl
              | some q => simp at k1 ⊢; omega
            have := hw ho
            omega
          rw [lastW, if_neg hne]
          rcases k4 with k4 | ⟨k4, k5⟩
          · exact .inl (by rw [k4]; rfl)
          · exact .inr ⟨by rw [k4]; rfl, k5⟩
theorem rising_append : ∀ {a b : List Wr}, Rising (a ++ b) → Rising a ∧ Rising b ∧ ∀ x ∈ a, ∀ y ∈ b, x.blk < y.blk
  | [], b, h => ⟨trivial, h, by simp⟩
  | x :: a, b, h => by
    obtain ⟨h1, h2⟩ := h
    obtain ⟨k1, k2, k3⟩ := rising_append h2
    refine ⟨⟨fun y hy => h1 y (List.mem_append_left _ hy), k1⟩, k2, fun z hz y hy => ?_⟩
    rcases List.mem_cons.1 hz with rfl | hz
    · exact h1 y (List.mem_append_right _ hy)
    · exact k3 z hz y hy
def lastBlk (out : List Wr) : Option Int := out.getLast?.map Wr.blk
theorem mem_merge {all : List Wr} {w : Wr} (h : w ∈ mergeW all) : lastW all w.blk = some w := by
  rw [← lastW_merge, rising_last _ (merge_rising all)]
  have hr := merge_rising all
  generalize mergeW all = m at *
  induction m with
  | nil => simp at h
  | cons x m ih =>
    rw [findW_cons]
    rcases List.mem_cons.1 h with rfl | h
    · rw [if_pos rfl]
    · rw [if_neg (by have := hr.1 w h; omega)]
      exact ih h hr.2
theorem lastW_mem {l : List Wr} {k : Int} {w : Wr} (h : lastW l k = some w) : w ∈ l ∧ w.blk = k := by
  induction l with
  | nil => simp [lastW] at h
  | cons x l ih =>
    rw [lastW] at h
    cases hl : lastW l k with
    | some y => rw [hl] at h; simp at h; subst h; have := ih hl; exact ⟨List.mem_cons_of_mem _ this.1, this.2⟩
    | none =>
      rw [hl] at h
      simp at h
      exact ⟨by rw [h.2]; simp, by rw [← h.2]; exact h.1⟩
theorem lastW_some {l : List Wr} {w : Wr} (h : w ∈ l) : ∃ x, lastW l w.blk = some x := by
  induction l with
  | nil => simp at h
  | cons y l ih =>
    rw [lastW]
    rcases List.mem_cons.1 h with rfl | h
    · cases lastW l w.blk <;> simp
    · obtain ⟨x, hx⟩ := ih h
      rw [hx]; simp
/-- The reference's next one is the next of the merged list. -/
theorem best_next {all out : List Wr} {rest : List Wr} (h : mergeW all = out ++ rest) : bestW (lastBlk out) all none = rest.head? := by
  have hr := merge_rising all
  rw [h] at hr
  obtain ⟨r1, r2, r3⟩ := rising_append hr
  have hab : ∀ w, okW (lastBlk out) w = true ↔ ∀ x ∈ out, x.blk < w.blk := by
    intro w
    unfold okW lastBlk
    cases hl : out.getLast? with
    | none =>
      rw [List.getLast?_eq_none_iff] at hl
      subst hl
      simp
    | some z =>
      obtain ⟨pre, rfl⟩ : ∃ pre, out = pre ++ [z] := by
        rw [List.getLast?_eq_some_iff] at hl
        exact hl
      have hz := (rising_append r1).2.2
      simp only [Option.map_some, decide_eq_true_eq]
      refine ⟨fun hlt x hx => ?_, fun hh => hh z (by simp)⟩
      rcases List.mem_append.1 hx with hx | hx
      · have := hz x hx z (by simp); omega
      · simp at hx; rw [hx]; exact hlt
  obtain ⟨s1, s2⟩ := bestW_spec (lastBlk out) all none (fun x e => by cases e)
  cases hb : bestW (lastBlk out) all none with
  | none =>
    obtain ⟨_, hno⟩ := s1 hb
    cases rest with
    | nil => rfl
    | cons y rest =>
      exfalso
      have hy : y ∈ mergeW all := by rw [h]; simp
      have hya := (lastW_mem (mem_merge hy)).1
      have := hno y hya
      have hyo := (hab y).2 (fun x hx => r3 x hx y (by simp))
      rw [hyo] at this
      cases this
  | some x =>
    obtain ⟨k1, k2, -, k4⟩ := s2 x hb
    have hx4 : lastW all x.blk = some x := by
      rcases k4 with k4 | ⟨_, k5⟩
      · exact k4
      · cases k5
    have hxm : x ∈ mergeW all := by
      have := merge_find all x.blk
      rw [hx4] at this
      exact (findW_some this).1
    rw [h] at hxm
    have hxo := (hab x).1 k1
    have hxr : x ∈ rest := by
      rcases List.mem_append.1 hxm with hm | hm
      · have := hxo x hm; omega
      · exact hm
    cases rest with
    | nil => simp at hxr
    | cons y rest =>
      rcases List.mem_cons.1 hxr with rfl | hxr
      · rfl
      · exfalso
        have hlt := r2.1 x hxr
        have hy : y ∈ mergeW all := by rw [h]; simp
        have hya := (lastW_mem (mem_merge hy)).1
        have := k2 y hya ((hab y).2 (fun z hz => r3 z hz y (by simp)))
        omega
end Go.Proofs.Ytnlcmgdeohbmoaa

/-
  Sorted lists of keys and values, without memory: where a key stands, put, delete; their cells. Nothing of a program's dump is used here.
-/
namespace Go.Proofs.Ytnlcmgdeohbmoaa
set_option linter.unusedSimpArgs false
set_option linter.unusedVariables false
set_option maxRecDepth 100000

section
variable {κ ν : Type}
/-- A strict order in which any two keys stand apart. -/
structure Strict (lt : κ → κ → Bool) : Prop where
  irr : ∀ a, lt a a = false
  tr : ∀ a b c, lt a b = true → lt b c = true → lt a c = true
  tri : ∀ a b, lt a b = false → lt b a = false → a = b

theorem Strict.asym {lt : κ → κ → Bool} (h : Strict lt) {a b : κ} (hab : lt a b = true) : lt b a = false := by
  cases hb : lt b a with
  | false => rfl
  | true => have := h.tr a b a hab hb; rw [h.irr] at this; cases this

def Sorted (lt : κ → κ → Bool) (l : List (κ × ν)) : Prop := l.Pairwise fun a b => lt a.1 b.1 = true
def posK (lt : κ → κ → Bool) (l : List (κ × ν)) (k : κ) : Nat := (l.takeWhile fun e => lt e.1 k).length
def hasK (lt : κ → κ → Bool) (l : List (κ × ν)) (k : κ) : Bool := match l[posK lt l k]? with
  | some e => !lt k e.1
  | none => false
def insK (l : List (κ × ν)) (i : Nat) (e : κ × ν) : List (κ × ν) := l.take i ++ e :: l.drop i
def remK (l : List (κ × ν)) (i : Nat) : List (κ × ν) := l.take i ++ l.drop (i + 1)
def putK (lt : κ → κ → Bool) (l : List (κ × ν)) (k : κ) (v : ν) : List (κ × ν) := if hasK lt l k then l.set (posK lt l k) (k, v) else insK l (posK lt l k) (k, v)
def delK (lt : κ → κ → Bool) (l : List (κ × ν)) (k : κ) : List (κ × ν) := if hasK lt l k then remK l (posK lt l k) else l

variable {lt : κ → κ → Bool} {l : List (κ × ν)} {k : κ} {v : ν}

theorem posK_le (lt : κ → κ → Bool) (l : List (κ × ν)) (k : κ) : posK lt l k ≤ l.length := (List.takeWhile_sublist _).length_le
theorem posK_nil (lt : κ → κ → Bool) (k : κ) : posK lt ([] : List (κ × ν)) k = 0 := rfl
theorem hasK_nil (lt : κ → κ → Bool) (k : κ) : hasK lt ([] : List (κ × ν)) k = false := rfl
theorem lt_of_posK : ∀ (l : List (κ × ν)) (j : Nat) (h : j < l.length), j < posK lt l k → lt l[j].1 k = true
  | e :: l, 0, h, hp => by
    unfold posK at hp
    cases he : lt e.1 k with
    | true => exact he
    | false => simp [List.takeWhile_cons, he] at hp
  | e :: l, j + 1, h, hp => by
    unfold posK at hp
    cases he : lt e.1 k with
    | true =>
      simp [List.takeWhile_cons, he] at hp
      exact lt_of_posK l j (by simpa using h) hp
    | false => simp [List.takeWhile_cons, he] at hp
theorem not_lt_posK : ∀ (l : List (κ × ν)) (h : posK lt l k < l.length), lt l[posK lt l k].1 k = false
  | [], h => by simp at h
  | e :: l, h => by
    cases he : lt e.1 k with
    | true =>
      have hp : posK lt (e :: l) k = posK lt l k + 1 := by simp [posK, List.takeWhile_cons, he]
      simp only [hp] at h ⊢
      exact not_lt_posK l (by simpa using h)
    | false =>
      have hp : posK lt (e :: l) k = 0 := by simp [posK, List.takeWhile_cons, he]
      simp only [hp]
      exact he
theorem posK_eq {i : Nat} (hi : i ≤ l.length) (h1 : ∀ j (h : j < l.length), j < i → lt l[j].1 k = true) (h2 : ∀ h : i < l.length, lt l[i].1 k = false) : i = posK lt l k := by
  have hle := posK_le lt l k
  rcases Nat.lt_trichotomy i (posK lt l k) with h | h | h
  · have := lt_of_posK (lt := lt) (k := k) l i (by omega) h
    rw [h2 (by omega)] at this
    cases this
  · exact h
  · have := not_lt_posK (lt := lt) (k := k) l (by omega)
    rw [h1 _ (by omega) h] at this
    cases this
theorem Sorted.get (hs : Sorted lt l) {i j : Nat} (hi : i < l.length) (hj : j < l.length) (h : i < j) : lt l[i].1 l[j].1 = true := List.pairwise_iff_getElem.1 hs i j hi hj h
theorem Sorted.mono (ho : Strict lt) (hs : Sorted lt l) {i j : Nat} (hj : j < l.length) (hij : i ≤ j) (h : lt l[j].1 k = true) : lt (l[i]'(by omega)).1 k = true := by
  rcases Nat.eq_or_lt_of_le hij with rfl | h'
  · exact h
  · exact ho.tr _ _ _ (hs.get (by omega) hj h') h
theorem hasK_lt (h : hasK lt l k = true) : posK lt l k < l.length := by
  unfold hasK at h
  rcases Nat.lt_or_ge (posK lt l k) l.length with h' | h'
  · exact h'
  · rw [List.getElem?_eq_none h'] at h; cases h
theorem hasK_key (ho : Strict lt) (h : hasK lt l k = true) : (l[posK lt l k]'(hasK_lt h)).1 = k := by
  have hl := hasK_lt h
  have h1 := not_lt_posK (lt := lt) (k := k) l hl
  unfold hasK at h
  rw [List.getElem?_eq_getElem hl] at h
  exact ho.tri _ _ h1 (by simpa using h)
theorem hasK_get (h : posK lt l k < l.length) : hasK lt l k = !lt k l[posK lt l k].1 := by
  unfold hasK; rw [List.getElem?_eq_getElem h]
theorem hasK_ge (h : ¬ posK lt l k < l.length) : hasK lt l k = false := by
  unfold hasK; rw [List.getElem?_eq_none (by omega)]
theorem hasK_iff (ho : Strict lt) (hs : Sorted lt l) : hasK lt l k = true ↔ ∃ v, (k, v) ∈ l := by
  constructor
  · intro h
    have hl := hasK_lt h
    refine ⟨(l[posK lt l k]).2, ?_⟩
    have hk := hasK_key ho h
    have := List.getElem_mem hl
    generalize l[posK lt l k] = x at hk this
    obtain ⟨a, b⟩ := x
    simp only at hk
    subst hk
    exact this
  · rintro ⟨v, hv⟩
    obtain ⟨i, hi, he⟩ := List.getElem_of_mem hv
    have hk : l[i].1 = k := by rw [he]
    have hp : i = posK lt l k := posK_eq (by omega) (fun j hj hji => by have := hs.get hj hi hji; rw [hk] at this; exact this) (fun _ => by rw [hk]; exact ho.irr k)
    have hl : posK lt l k < l.length := by omega
    rw [hasK_get hl]
    have : l[posK lt l k] = l[i] := by simp [← hp]
    rw [this, hk, ho.irr]
    rfl
theorem insK_length (l : List (κ × ν)) (i : Nat) (e : κ × ν) (h : i ≤ l.length) : (insK l i e).length = l.length + 1 := by simp [insK]; omega
theorem remK_length (l : List (κ × ν)) (i : Nat) (h : i < l.length) : (remK l i).length = l.length - 1 := by simp [remK]; omega
theorem putK_length (lt : κ → κ → Bool) (l : List (κ × ν)) (k : κ) (v : ν) : (putK lt l k v).length ≤ l.length + 1 ∧ l.length ≤ (putK lt l k v).length := by
  unfold putK
  split
  · simp
  · rw [insK_length _ _ _ (posK_le _ _ _)]; omega
theorem delK_length (lt : κ → κ → Bool) (l : List (κ × ν)) (k : κ) : (delK lt l k).length ≤ l.length := by
  unfold delK
  split
  · rename_i h; rw [remK_length _ _ (hasK_lt h)]; omega
  · omega
theorem mem_insK {l : List (κ × ν)} {i : Nat} {e x : κ × ν} (h : x ∈ insK l i e) : x = e ∨ x ∈ l := by
  unfold insK at h
  rcases List.mem_append.1 h with h | h
  · exact .inr (List.mem_of_mem_take h)
  · rcases List.mem_cons.1 h with h | h
    · exact .inl h
    · exact .inr (List.mem_of_mem_drop h)
theorem mem_putK {x : κ × ν} (h : x ∈ putK lt l k v) : x = (k, v) ∨ x ∈ l := by
  unfold putK at h
  split at h
  · rcases List.mem_or_eq_of_mem_set h with h | h
    · exact .inr h
    · exact .inl h
  · exact mem_insK h
theorem mem_putK_self (lt : κ → κ → Bool) (l : List (κ × ν)) (k : κ) (v : ν) : (k, v) ∈ putK lt l k v := by
  unfold putK
  split
  · rename_i h
    exact List.mem_set (hasK_lt h) _
  · simp [insK]
theorem mem_putK_old (ho : Strict lt) {x : κ × ν} (h : x ∈ l) : ∃ u, (x.1, u) ∈ putK lt l k v := by
  unfold putK
  split
  · rename_i hh
    obtain ⟨i, hi, rfl⟩ := List.getElem_of_mem h
    by_cases e : i = posK lt l k
    · have hk := hasK_key ho hh
      refine ⟨v, ?_⟩
      have : l[i].1 = k := by simp [e, hk]
      rw [this]
      exact List.mem_set (hasK_lt hh) _
    · refine ⟨l[i].2, ?_⟩
      have : (l.set (posK lt l k) (k, v))[i]? = some l[i] := by rw [List.getElem?_set_ne (fun h => e h.symm)]; exact List.getElem?_eq_getElem hi
      exact List.mem_of_getElem? this
  · refine ⟨x.2, ?_⟩
    unfold insK
    have := List.take_append_drop (posK lt l k) l
    rw [← this] at h
    rcases List.mem_append.1 h with h | h
    · exact List.mem_append.2 (.inl h)
    · exact List.mem_append.2 (.inr (List.mem_cons.2 (.inr h)))
theorem mem_delK {x : κ × ν} (h : x ∈ delK lt l k) : x ∈ l := by
  unfold delK at h
  split at h
  · unfold remK at h
    rcases List.mem_append.1 h with h | h
    · exact List.mem_of_mem_take h
    · exact List.mem_of_mem_drop h
  · exact h
theorem Sorted.del (hs : Sorted lt l) (k : κ) : Sorted lt (delK lt l k) := by
  unfold delK
  split
  · refine List.Pairwise.sublist ?_ hs
    unfold remK
    conv => rhs; rw [← List.take_append_drop (posK lt l k) l]
    refine List.Sublist.append (List.Sublist.refl _) ?_
    rw [← List.drop_drop]
    exact List.drop_sublist 1 _
  · exact hs
theorem Sorted.put (ho : Strict lt) (hs : Sorted lt l) (k : κ) (v : ν) : Sorted lt (putK lt l k v) := by
  unfold putK
  split
  · rename_i hh
    have hk := hasK_key ho hh
    unfold Sorted
    rw [List.pairwise_iff_getElem]
    intro i j hi hj hij
    simp only [List.length_set] at hi hj
    have hg : ∀ n (hn : n < l.length), ((l.set (posK lt l k) (k, v))[n]'(by simpa using hn)).1 = l[n].1 := by
      intro n hn
      rw [List.getElem_set]
      split
      · rename_i e; subst e; exact hk.symm
      · rfl
    rw [hg i hi, hg j hj]
    exact hs.get hi hj hij
  · rename_i hh
    have hp := posK_le lt l k
    unfold insK Sorted
    rw [List.pairwise_append]
    have htd := List.take_append_drop (posK lt l k) l
    have hs' := hs
    unfold Sorted at hs'
    rw [← htd, List.pairwise_append] at hs'
    obtain ⟨h1, h2, h3⟩ := hs'
    have hb : ∀ x ∈ l.take (posK lt l k), lt x.1 k = true := by
      intro x hx
      obtain ⟨i, hi, rfl⟩ := List.getElem_of_mem hx
      simp only [List.length_take] at hi
      simp only [List.getElem_take]
      exact lt_of_posK l i (by omega) (by omega)
    have ha : ∀ x ∈ l.drop (posK lt l k), lt k x.1 = true := by
      intro x hx
      obtain ⟨i, hi, rfl⟩ := List.getElem_of_mem hx
      simp only [List.length_drop] at hi
      simp only [List.getElem_drop]
      have hl : posK lt l k < l.length := by omega
      have h0 : lt k (l[posK lt l k]).1 = true := by
        have := hasK_get (lt := lt) (l := l) (k := k) hl
        cases hx2 : lt k (l[posK lt l k]).1 with
        | true => rfl
        | false => rw [hx2] at this; exact absurd this hh
      by_cases e : i = 0
      · subst e; simpa using h0
      · exact ho.tr _ _ _ h0 (hs.get hl (by omega) (by omega))
    refine ⟨h1, ?_, ?_⟩
    · rw [List.pairwise_cons]
      exact ⟨fun x hx => ha x hx, h2⟩
    · intro x hx y hy
      rcases List.mem_cons.1 hy with rfl | hy
      · exact hb x hx
      · exact ho.tr _ _ _ (hb x hx) (ha y hy)
end

section
variable {κ ν : Type} (ek : κ → Value) (ev : ν → Value)
/-- The cells of some entries. -/
def encE : List (κ × ν) → List Value
  | [] => []
  | e :: l => ek e.1 :: ev e.2 :: encE l
variable {ek ev}
theorem encE_length : ∀ l : List (κ × ν), (encE ek ev l).length = l.length * 2
  | [] => rfl
  | e :: l => by simp [encE, encE_length l]; omega
theorem encE_append : ∀ a b : List (κ × ν), encE ek ev (a ++ b) = encE ek ev a ++ encE ek ev b
  | [], b => rfl
  | e :: a, b => by simp [encE, encE_append a b]
theorem encE_take : ∀ (l : List (κ × ν)) (i : Nat), encE ek ev (l.take i) = (encE ek ev l).take (i * 2)
  | [], i => by simp [encE]
  | e :: l, 0 => by simp [encE]
  | e :: l, i + 1 => by rw [show (i + 1) * 2 = i * 2 + 1 + 1 by omega]; simp [encE, encE_take l i]
theorem encE_drop : ∀ (l : List (κ × ν)) (i : Nat), encE ek ev (l.drop i) = (encE ek ev l).drop (i * 2)
  | [], i => by simp [encE]
  | e :: l, 0 => by simp [encE]
  | e :: l, i + 1 => by rw [show (i + 1) * 2 = i * 2 + 1 + 1 by omega]; simp [encE, encE_drop l i]
theorem encE_key : ∀ (l : List (κ × ν)) (i : Nat) (h : i < l.length), (encE ek ev l)[i * 2]? = some (ek l[i].1)
  | e :: l, 0, h => by simp [encE]
  | e :: l, i + 1, h => by rw [show (i + 1) * 2 = i * 2 + 1 + 1 by omega]; simpa [encE] using encE_key l i (by simpa using h)
theorem encE_val : ∀ (l : List (κ × ν)) (i : Nat) (h : i < l.length), (encE ek ev l)[i * 2 + 1]? = some (ev l[i].2)
  | e :: l, 0, h => by simp [encE]
  | e :: l, i + 1, h => by rw [show (i + 1) * 2 + 1 = i * 2 + 1 + 1 + 1 by omega]; simpa [encE] using encE_val l i (by simpa using h)
theorem encE_two (l : List (κ × ν)) (i : Nat) (h : i < l.length) : ((encE ek ev l).drop (i * 2)).take 2 = [ek l[i].1, ev l[i].2] := by
  rw [← encE_drop, List.drop_eq_getElem_cons h]
  simp [encE]
theorem encE_set : ∀ (l : List (κ × ν)) (i : Nat) (h : i < l.length) (v : ν), encE ek ev (l.set i (l[i].1, v)) = (encE ek ev l).set (i * 2 + 1) (ev v)
  | e :: l, 0, h, v => by simp [encE]
  | e :: l, i + 1, h, v => by
    rw [show (i + 1) * 2 + 1 = i * 2 + 1 + 1 + 1 by omega]
    simp only [List.set_cons_succ, encE, List.getElem_cons_succ]
    rw [encE_set l i (by simpa using h) v]
theorem encE_one (h1 : ∀ k, (ek k).oneCell' = true) (h2 : ∀ v, (ev v).oneCell' = true) : ∀ (l : List (κ × ν)), ∀ u ∈ encE ek ev l, u.oneCell' = true
  | [], u, hu => by simp [encE] at hu
  | e :: l, u, hu => by
    simp only [encE, List.mem_cons] at hu
    rcases hu with rfl | rfl | hu
    · exact h1 _
    · exact h2 _
    · exact encE_one h1 h2 l u hu
end

theorem Strict.int : Strict (fun a b : Int => decide (a < b)) :=
  ⟨fun a => by simp, fun a b c h k => by simp at *; omega, fun a b h k => by simp at *; omega⟩

theorem less_irr : ∀ a : List UInt8, Op.bytesLess a a = false
  | [] => rfl
  | x :: a => by simp [Op.bytesLess, less_irr a]
theorem less_tr : ∀ a b c : List UInt8, Op.bytesLess a b = true → Op.bytesLess b c = true → Op.bytesLess a c = true
  | a, b, [], _, h => by cases b <;> simp [Op.bytesLess] at h
  | a, [], _ :: _, h, _ => by cases a <;> simp [Op.bytesLess] at h
  | [], _ :: _, _ :: _, _, _ => rfl
  | x :: a, y :: b, z :: c, h, k => by
    simp only [Op.bytesLess, Bool.or_eq_true, Bool.and_eq_true, decide_eq_true_eq, beq_iff_eq] at *
    rcases h with h | ⟨rfl, h⟩
    · rcases k with k | ⟨rfl, k⟩
      · exact .inl (by rw [UInt8.lt_iff_toNat_lt] at *; omega)
      · exact .inl h
    · rcases k with k | ⟨rfl, k⟩
      · exact .inl k
      · exact .inr ⟨rfl, less_tr a b c h k⟩
theorem less_tri : ∀ a b : List UInt8, Op.bytesLess a b = false → Op.bytesLess b a = false → a = b
  | [], [], _, _ => rfl
  | [], _ :: _, h, _ => by simp [Op.bytesLess] at h
  | _ :: _, [], _, h => by simp [Op.bytesLess] at h
  | x :: a, y :: b, h, k => by
    simp only [Op.bytesLess, Bool.or_eq_false_iff, Bool.and_eq_false_iff, decide_eq_false_iff_not, beq_eq_false_iff_ne] at *
    have e : x = y := by
      apply UInt8.toNat_inj.1
      have h1 := h.1; have h2 := k.1
      rw [UInt8.lt_iff_toNat_lt] at h1 h2
      omega
    subst e
    rcases h.2 with h' | h'
    · exact absurd rfl h'
    · rcases k.2 with k' | k'
      · exact absurd rfl k'
      · rw [less_tri a b h' k']
theorem toList_inj {a b : ByteArray} (h : a.toList = b.toList) : a = b := by
  rw [ByteArray.toList_eq, ByteArray.toList_eq] at h
  exact ByteArray.ext (Array.toList_inj.1 h)

def ltI (a b : Int) : Bool := decide (a < b)
def ltS (a b : ByteArray) : Bool := Op.bytesLess a.toList b.toList
theorem strictI : Strict ltI := Strict.int
theorem strictS : Strict ltS := ⟨fun a => less_irr _, fun a b c => less_tr _ _ _, fun a b h k => toList_inj (less_tri _ _ h k)⟩

end Go.Proofs.Ytnlcmgdeohbmoaa
