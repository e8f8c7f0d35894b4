/-
  Sorted lists of keys and values, without memory: where a key stands, put, delete; their cells. Nothing of a program's dump is used here.
-/
import Derived.Test.YtclfklcboigifaaBlkB
namespace Go.Proofs.Ytclfklcboigifaa
set_option linter.unusedSimpArgs false
set_option linter.unusedVariables false
set_option maxRecDepth 100000

section
variable {κ ν : Type}
/-- A strict order in which any two keys stand apart. -/
structure Strict (lt : κ → κ → Bool) : Prop where
  irr : ∀ a, lt a a = false
  tr : ∀ a b c, lt a b = true → lt b c = true → lt a c = true
  tri : ∀ a b, lt a b = false → lt b a = false → a = b

theorem Strict.asym {lt : κ → κ → Bool} (h : Strict lt) {a b : κ} (hab : lt a b = true) : lt b a = false := by
  cases hb : lt b a with
  | false => rfl
  | true => have := h.tr a b a hab hb; rw [h.irr] at this; cases this

def Sorted (lt : κ → κ → Bool) (l : List (κ × ν)) : Prop := l.Pairwise fun a b => lt a.1 b.1 = true
def posK (lt : κ → κ → Bool) (l : List (κ × ν)) (k : κ) : Nat := (l.takeWhile fun e => lt e.1 k).length
def hasK (lt : κ → κ → Bool) (l : List (κ × ν)) (k : κ) : Bool := match l[posK lt l k]? with
  | some e => !lt k e.1
  | none => false
def insK (l : List (κ × ν)) (i : Nat) (e : κ × ν) : List (κ × ν) := l.take i ++ e :: l.drop i
def remK (l : List (κ × ν)) (i : Nat) : List (κ × ν) := l.take i ++ l.drop (i + 1)
def putK (lt : κ → κ → Bool) (l : List (κ × ν)) (k : κ) (v : ν) : List (κ × ν) := if hasK lt l k then l.set (posK lt l k) (k, v) else insK l (posK lt l k) (k, v)
def delK (lt : κ → κ → Bool) (l : List (κ × ν)) (k : κ) : List (κ × ν) := if hasK lt l k then remK l (posK lt l k) else l

variable {lt : κ → κ → Bool} {l : List (κ × ν)} {k : κ} {v : ν}

theorem posK_le (lt : κ → κ → Bool) (l : List (κ × ν)) (k : κ) : posK lt l k ≤ l.length := (List.takeWhile_sublist _).length_le
theorem posK_nil (lt : κ → κ → Bool) (k : κ) : posK lt ([] : List (κ × ν)) k = 0 := rfl
theorem hasK_nil (lt : κ → κ → Bool) (k : κ) : hasK lt ([] : List (κ × ν)) k = false := rfl
theorem lt_of_posK : ∀ (l : List (κ × ν)) (j : Nat) (h : j < l.length), j < posK lt l k → lt l[j].1 k = true
  | e :: l, 0, h, hp => by
    unfold posK at hp
    cases he : lt e.1 k with
    | true => exact he
    | false => simp [List.takeWhile_cons, he] at hp
  | e :: l, j + 1, h, hp => by
    unfold posK at hp
    cases he : lt e.1 k with
    | true =>
      simp [List.takeWhile_cons, he] at hp
      exact lt_of_posK l j (by simpa using h) hp
    | false => simp [List.takeWhile_cons, he] at hp
theorem not_lt_posK : ∀ (l : List (κ × ν)) (h : posK lt l k < l.length), lt l[posK lt l k].1 k = false
  | [], h => by simp at h
  | e :: l, h => by
    cases he : lt e.1 k with
    | true =>
      have hp : posK lt (e :: l) k = posK lt l k + 1 := by simp [posK, List.takeWhile_cons, he]
      simp only [hp] at h ⊢
      exact not_lt_posK l (by simpa using h)
    | false =>
      have hp : posK lt (e :: l) k = 0 := by simp [posK, List.takeWhile_cons, he]
      simp only [hp]
      exact he
theorem posK_eq {i : Nat} (hi : i ≤ l.length) (h1 : ∀ j (h : j < l.length), j < i → lt l[j].1 k = true) (h2 : ∀ h : i < l.length, lt l[i].1 k = false) : i = posK lt l k := by
  have hle := posK_le lt l k
  rcases Nat.lt_trichotomy i (posK lt l k) with h | h | h
  · have := lt_of_posK (lt := lt) (k := k) l i (by omega) h
    rw [h2 (by omega)] at this
    cases this
  · exact h
  · have := not_lt_posK (lt := lt) (k := k) l (by omega)
    rw [h1 _ (by omega) h] at this
    cases this
theorem Sorted.get (hs : Sorted lt l) {i j : Nat} (hi : i < l.length) (hj : j < l.length) (h : i < j) : lt l[i].1 l[j].1 = true := List.pairwise_iff_getElem.1 hs i j hi hj h
theorem Sorted.mono (ho : Strict lt) (hs : Sorted lt l) {i j : Nat} (hj : j < l.length) (hij : i ≤ j) (h : lt l[j].1 k = true) : lt (l[i]'(by omega)).1 k = true := by
  rcases Nat.eq_or_lt_of_le hij with rfl | h'
  · exact h
  · exact ho.tr _ _ _ (hs.get (by omega) hj h') h
theorem hasK_lt (h : hasK lt l k = true) : posK lt l k < l.length := by
  unfold hasK at h
  rcases Nat.lt_or_ge (posK lt l k) l.length with h' | h'
  · exact h'
  · rw [List.getElem?_eq_none h'] at h; cases h
theorem hasK_key (ho : Strict lt) (h : hasK lt l k = true) : (l[posK lt l k]'(hasK_lt h)).1 = k := by
  have hl := hasK_lt h
  have h1 := not_lt_posK (lt := lt) (k := k) l hl
  unfold hasK at h
  rw [List.getElem?_eq_getElem hl] at h
  exact ho.tri _ _ h1 (by simpa using h)
theorem hasK_get (h : posK lt l k < l.length) : hasK lt l k = !lt k l[posK lt l k].1 := by
  unfold hasK; rw [List.getElem?_eq_getElem h]
theorem hasK_ge (h : ¬ posK lt l k < l.length) : hasK lt l k = false := by
  unfold hasK; rw [List.getElem?_eq_none (by omega)]
theorem hasK_iff (ho : Strict lt) (hs : Sorted lt l) : hasK lt l k = true ↔ ∃ v, (k, v) ∈ l := by
  constructor
  · intro h
    have hl := hasK_lt h
    refine ⟨(l[posK lt l k]).2, ?_⟩
    have hk := hasK_key ho h
    have := List.getElem_mem hl
    generalize l[posK lt l k] = x at hk this
    obtain ⟨a, b⟩ := x
    simp only at hk
    subst hk
    exact this
  · rintro ⟨v, hv⟩
    obtain ⟨i, hi, he⟩ := List.getElem_of_mem hv
    have hk : l[i].1 = k := by rw [he]
    have hp : i = posK lt l k := posK_eq (by omega) (fun j hj hji => by have := hs.get hj hi hji; rw [hk] at this; exact this) (fun _ => by rw [hk]; exact ho.irr k)
    have hl : posK lt l k < l.length := by omega
    rw [hasK_get hl]
    have : l[posK lt l k] = l[i] := by simp [← hp]
    rw [this, hk, ho.irr]
    rfl
theorem insK_length (l : List (κ × ν)) (i : Nat) (e : κ × ν) (h : i ≤ l.length) : (insK l i e).length = l.length + 1 := by simp [insK]; omega
theorem remK_length (l : List (κ × ν)) (i : Nat) (h : i < l.length) : (remK l i).length = l.length - 1 := by simp [remK]; omega
theorem putK_length (lt : κ → κ → Bool) (l : List (κ × ν)) (k : κ) (v : ν) : (putK lt l k v).length ≤ l.length + 1 ∧ l.length ≤ (putK lt l k v).length := by
  unfold putK
  split
  · simp
  · rw [insK_length _ _ _ (posK_le _ _ _)]; omega
theorem delK_length (lt : κ → κ → Bool) (l : List (κ × ν)) (k : κ) : (delK lt l k).length ≤ l.length := by
  unfold delK
  split
  · rename_i h; rw [remK_length _ _ (hasK_lt h)]; omega
  · omega
theorem mem_insK {l : List (κ × ν)} {i : Nat} {e x : κ × ν} (h : x ∈ insK l i e) : x = e ∨ x ∈ l := by
  unfold insK at h
  rcases List.mem_append.1 h with h | h
  · exact .inr (List.mem_of_mem_take h)
  · rcases List.mem_cons.1 h with h | h
    · exact .inl h
    · exact .inr (List.mem_of_mem_drop h)
theorem mem_putK {x : κ × ν} (h : x ∈ putK lt l k v) : x = (k, v) ∨ x ∈ l := by
  unfold putK at h
  split at h
  · rcases List.mem_or_eq_of_mem_set h with h | h
    · exact .inr h
    · exact .inl h
  · exact mem_insK h
theorem mem_putK_self (lt : κ → κ → Bool) (l : List (κ × ν)) (k : κ) (v : ν) : (k, v) ∈ putK lt l k v := by
  unfold putK
  split
  · rename_i h
    exact List.mem_set (hasK_lt h) _
  · simp [insK]
theorem mem_putK_old (ho : Strict lt) {x : κ × ν} (h : x ∈ l) : ∃ u, (x.1, u) ∈ putK lt l k v := by
  unfold putK
  split
  · rename_i hh
    obtain ⟨i, hi, rfl⟩ := List.getElem_of_mem h
    by_cases e : i = posK lt l k
    · have hk := hasK_key ho hh
      refine ⟨v, ?_⟩
      have : l[i].1 = k := by simp [e, hk]
      rw [this]
      exact List.mem_set (hasK_lt hh) _
    · refine ⟨l[i].2, ?_⟩
      have : (l.set (posK lt l k) (k, v))[i]? = some l[i] := by rw [List.getElem?_set_ne (fun h => e h.symm)]; exact List.getElem?_eq_getElem hi
      exact List.mem_of_getElem? this
  · refine ⟨x.2, ?_⟩
    unfold insK
    have := List.take_append_drop (posK lt l k) l
    rw [← this] at h
    rcases List.mem_append.1 h with h | h
    · exact List.mem_append.2 (.inl h)
    · exact List.mem_append.2 (.inr (List.mem_cons.2 (.inr h)))
theorem mem_delK {x : κ × ν} (h : x ∈ delK lt l k) : x ∈ l := by
  unfold delK at h
  split at h
  · unfold remK at h
    rcases List.mem_append.1 h with h | h
    · exact List.mem_of_mem_take h
    · exact List.mem_of_mem_drop h
  · exact h
theorem Sorted.del (hs : Sorted lt l) (k : κ) : Sorted lt (delK lt l k) := by
  unfold delK
  split
  · refine List.Pairwise.sublist ?_ hs
    unfold remK
    conv => rhs; rw [← List.take_append_drop (posK lt l k) l]
    refine List.Sublist.append (List.Sublist.refl _) ?_
    rw [← List.drop_drop]
    exact List.drop_sublist 1 _
  · exact hs
theorem Sorted.put (ho : Strict lt) (hs : Sorted lt l) (k : κ) (v : ν) : Sorted lt (putK lt l k v) := by
  unfold putK
  split
  · rename_i hh
    have hk := hasK_key ho hh
    unfold Sorted
    rw [List.pairwise_iff_getElem]
    intro i j hi hj hij
    simp only [List.length_set] at hi hj
    have hg : ∀ n (hn : n < l.length), ((l.set (posK lt l k) (k, v))[n]'(by simpa using hn)).1 = l[n].1 := by
      intro n hn
      rw [List.getElem_set]
      split
      · rename_i e; subst e; exact hk.symm
      · rfl
    rw [hg i hi, hg j hj]
    exact hs.get hi hj hij
  · rename_i hh
    have hp := posK_le lt l k
    unfold insK Sorted
    rw [List.pairwise_append]
    have htd := List.take_append_drop (posK lt l k) l
    have hs' := hs
    unfold Sorted at hs'
    rw [← htd, List.pairwise_append] at hs'
    obtain ⟨h1, h2, h3⟩ := hs'
    have hb : ∀ x ∈ l.take (posK lt l k), lt x.1 k = true := by
      intro x hx
      obtain ⟨i, hi, rfl⟩ := List.getElem_of_mem hx
      simp only [List.length_take] at hi
      simp only [List.getElem_take]
      exact lt_of_posK l i (by omega) (by omega)
    have ha : ∀ x ∈ l.drop (posK lt l k), lt k x.1 = true := by
      intro x hx
      obtain ⟨i, hi, rfl⟩ := List.getElem_of_mem hx
      simp only [List.length_drop] at hi
      simp only [List.getElem_drop]
      have hl : posK lt l k < l.length := by omega
      have h0 : lt k (l[posK lt l k]).1 = true := by
        have := hasK_get (lt := lt) (l := l) (k := k) hl
        cases hx2 : lt k (l[posK lt l k]).1 with
        | true => rfl
        | false => rw [hx2] at this; exact absurd this hh
      by_cases e : i = 0
      · subst e; simpa using h0
      · exact ho.tr _ _ _ h0 (hs.get hl (by omega) (by omega))
    refine ⟨h1, ?_, ?_⟩
    · rw [List.pairwise_cons]
      exact ⟨fun x hx => ha x hx, h2⟩
    · intro x hx y hy
      rcases List.mem_cons.1 hy with rfl | hy
      · exact hb x hx
      · exact ho.tr _ _ _ (hb x hx) (ha y hy)
end

section
variable {κ ν : Type} (ek : κ → Value) (ev : ν → Value)
/-- The cells of some entries. -/
def encE : List (κ × ν) → List Value
  | [] => []
  | e :: l => ek e.1 :: ev e.2 :: encE l
variable {ek ev}
theorem encE_length : ∀ l : List (κ × ν), (encE ek ev l).length = l.length * 2
  | [] => rfl
  | e :: l => by simp [encE, encE_length l]; omega
theorem encE_append : ∀ a b : List (κ × ν), encE ek ev (a ++ b) = encE ek ev a ++ encE ek ev b
  | [], b => rfl
  | e :: a, b => by simp [encE, encE_append a b]
theorem encE_take : ∀ (l : List (κ × ν)) (i : Nat), encE ek ev (l.take i) = (encE ek ev l).take (i * 2)
  | [], i => by simp [encE]
  | e :: l, 0 => by simp [encE]
  | e :: l, i + 1 => by rw [show (i + 1) * 2 = i * 2 + 1 + 1 by omega]; simp [encE, encE_take l i]
theorem encE_drop : ∀ (l : List (κ × ν)) (i : Nat), encE ek ev (l.drop i) = (encE ek ev l).drop (i * 2)
  | [], i => by simp [encE]
  | e :: l, 0 => by simp [encE]
  | e :: l, i + 1 => by rw [show (i + 1) * 2 = i * 2 + 1 + 1 by omega]; simp [encE, encE_drop l i]
theorem encE_key : ∀ (l : List (κ × ν)) (i : Nat) (h : i < l.length), (encE ek ev l)[i * 2]? = some (ek l[i].1)
  | e :: l, 0, h => by simp [encE]
  | e :: l, i + 1, h => by rw [show (i + 1) * 2 = i * 2 + 1 + 1 by omega]; simpa [encE] using encE_key l i (by simpa using h)
theorem encE_val : ∀ (l : List (κ × ν)) (i : Nat) (h : i < l.length), (encE ek ev l)[i * 2 + 1]? = some (ev l[i].2)
  | e :: l, 0, h => by simp [encE]
  | e :: l, i + 1, h => by rw [show (i + 1) * 2 + 1 = i * 2 + 1 + 1 + 1 by omega]; simpa [encE] using encE_val l i (by simpa using h)
theorem encE_two (l : List (κ × ν)) (i : Nat) (h : i < l.length) : ((encE ek ev l).drop (i * 2)).take 2 = [ek l[i].1, ev l[i].2] := by
  rw [← encE_drop, List.drop_eq_getElem_cons h]
  simp [encE]
theorem encE_set : ∀ (l : List (κ × ν)) (i : Nat) (h : i < l.length) (v : ν), encE ek ev (l.set i (l[i].1, v)) = (encE ek ev l).set (i * 2 + 1) (ev v)
  | e :: l, 0, h, v => by simp [encE]
  | e :: l, i + 1, h, v => by
    rw [show (i + 1) * 2 + 1 = i * 2 + 1 + 1 + 1 by omega]
    simp only [List.set_cons_succ, encE, List.getElem_cons_succ]
    rw [encE_set l i (by simpa using h) v]
theorem encE_one (h1 : ∀ k, (ek k).oneCell' = true) (h2 : ∀ v, (ev v).oneCell' = true) : ∀ (l : List (κ × ν)), ∀ u ∈ encE ek ev l, u.oneCell' = true
  | [], u, hu => by simp [encE] at hu
  | e :: l, u, hu => by
    simp only [encE, List.mem_cons] at hu
    rcases hu with rfl | rfl | hu
    · exact h1 _
    · exact h2 _
    · exact encE_one h1 h2 l u hu
end

theorem Strict.int : Strict (fun a b : Int => decide (a < b)) :=
  ⟨fun a => by simp, fun a b c h k => by simp at *; omega, fun a b h k => by simp at *; omega⟩

theorem less_irr : ∀ a : List UInt8, Op.bytesLess a a = false
  | [] => rfl
  | x :: a => by simp [Op.bytesLess, less_irr a]
theorem less_tr : ∀ a b c : List UInt8, Op.bytesLess a b = true → Op.bytesLess b c = true → Op.bytesLess a c = true
  | a, b, [], _, h => by cases b <;> simp [Op.bytesLess] at h
  | a, [], _ :: _, h, _ => by cases a <;> simp [Op.bytesLess] at h
  | [], _ :: _, _ :: _, _, _ => rfl
  | x :: a, y :: b, z :: c, h, k => by
    simp only [Op.bytesLess, Bool.or_eq_true, Bool.and_eq_true, decide_eq_true_eq, beq_iff_eq] at *
    rcases h with h | ⟨rfl, h⟩
    · rcases k with k | ⟨rfl, k⟩
      · exact .inl (by rw [UInt8.lt_iff_toNat_lt] at *; omega)
      · exact .inl h
    · rcases k with k | ⟨rfl, k⟩
      · exact .inl k
      · exact .inr ⟨rfl, less_tr a b c h k⟩
theorem less_tri : ∀ a b : List UInt8, Op.bytesLess a b = false → Op.bytesLess b a = false → a = b
  | [], [], _, _ => rfl
  | [], _ :: _, h, _ => by simp [Op.bytesLess] at h
  | _ :: _, [], _, h => by simp [Op.bytesLess] at h
  | x :: a, y :: b, h, k => by
    simp only [Op.bytesLess, Bool.or_eq_false_iff, Bool.and_eq_false_iff, decide_eq_false_iff_not, beq_eq_false_iff_ne] at *
    have e : x = y := by
      apply UInt8.toNat_inj.1
      have h1 := h.1; have h2 := k.1
      rw [UInt8.lt_iff_toNat_lt] at h1 h2
      omega
    subst e
    rcases h.2 with h' | h'
    · exact absurd rfl h'
    · rcases k.2 with k' | k'
      · exact absurd rfl k'
      · rw [less_tri a b h' k']
theorem toList_inj {a b : ByteArray} (h : a.toList = b.toList) : a = b := by
  rw [ByteArray.toList_eq, ByteArray.toList_eq] at h
  exact ByteArray.ext (Array.toList_inj.1 h)

def ltI (a b : Int) : Bool := decide (a < b)
def ltS (a b : ByteArray) : Bool := Op.bytesLess a.toList b.toList
theorem strictI : Strict ltI := Strict.int
theorem strictS : Strict ltS := ⟨fun a => less_irr _, fun a b c => less_tr _ _ _, fun a b h k => toList_inj (less_tri _ _ h k)⟩

end Go.Proofs.Ytclfklcboigifaa
