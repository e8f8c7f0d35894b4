/-
  Marks: a number for each block. Plain functions over lists; no condition beyond each law's own premises.
-/
import Derived.Test.YteijgdfgdhafnaaMath
namespace Go.Proofs.Yteijgdfgdhafnaa
set_option linter.unusedSimpArgs false
set_option linter.unusedVariables false

/-- Is it the number of a commit? -/
def mkNum (n : Int) : Bool := decide (0 ≤ n ∧ n ≤ 1099511627776)
def mkNew (b n : Int) : Bool := decide (1 ≤ b ∧ b ≤ 64) && mkNum n
/-- Is the block there? -/
def mkIn (k : Nat) (b : Int) : Bool := decide (0 ≤ b ∧ b < (k : Int))
/-- What Note answers: of marks l, for a number n, of writes of the blocks bs. -/
def mkErr (l : List Int) (n : Int) (bs : List Int) : Int :=
  if mkNum n = false then 2 else if l.any (fun k => decide (n < k)) then 52 else if bs.all (mkIn l.length) then 0 else 41
/-- The blocks have n. -/
def mkSet (l : List Int) (n : Int) (bs : List Int) : List Int := bs.foldl (fun a b => a.set b.toNat n) l
def mkNote (l : List Int) (n : Int) (bs : List Int) : List Int := if mkErr l n bs = 0 then mkSet l n bs else l
/-- The blocks from i on whose number is above n. -/
def mkSinceA (n : Int) : Nat → List Int → List Int
  | _, [] => []
  | i, x :: l => if n < x then (i : Int) :: mkSinceA n (i + 1) l else mkSinceA n (i + 1) l
def mkSince (l : List Int) (n : Int) : List Int := mkSinceA n 0 l
def mkMost (l : List Int) : Int := l.foldl max (-1)
def mkAt (l : List Int) (b : Int) : Int := if mkIn l.length b then l.getD b.toNat 0 else -1

theorem mkSet_length (n : Int) : ∀ (bs l : List Int), (mkSet l n bs).length = l.length
  | [], _ => rfl
  | b :: bs, l => by
    show (mkSet (l.set b.toNat n) n bs).length = _
    rw [mkSet_length n bs, List.length_set]
theorem mkNote_length (l : List Int) (n : Int) (bs : List Int) : (mkNote l n bs).length = l.length := by
  unfold mkNote
  split
  · exact mkSet_length _ _ _
  · rfl
theorem mkSet_get (n : Int) : ∀ (bs l : List Int), bs.all (mkIn l.length) = true → ∀ i, i < l.length → (mkSet l n bs)[i]? = if (i : Int) ∈ bs then some n else l[i]?
  | [], l, _, i, hi => by simp [mkSet]
  | b :: bs, l, h, i, hi => by
    rw [List.all_cons, Bool.and_eq_true] at h
    have hb : 0 ≤ b ∧ b < (l.length : Int) := of_decide_eq_true h.1
    show (mkSet (l.set b.toNat n) n bs)[i]? = _
    rw [mkSet_get n bs _ (by rw [List.length_set]; exact h.2) i (by rw [List.length_set]; exact hi)]
    by_cases h1 : (i : Int) ∈ bs
    · rw [if_pos h1, if_pos (List.mem_cons_of_mem _ h1)]
    · rw [if_neg h1]
      by_cases h2 : (i : Int) = b
      · have e : b.toNat = i := by omega
        rw [if_pos (by rw [h2]; exact List.mem_cons_self), e, List.getElem?_set_self hi]
      · rw [if_neg (by rw [List.mem_cons]; exact fun h => h.elim h2 h1), List.getElem?_set_ne (by omega)]
theorem mkErr_ok {l : List Int} {n : Int} {bs : List Int} : mkErr l n bs = 0 ↔ mkNum n = true ∧ (∀ x ∈ l, x ≤ n) ∧ bs.all (mkIn l.length) = true := by
  unfold mkErr
  by_cases h1 : mkNum n = false
  · rw [if_pos h1]
    simp [h1]
  · rw [if_neg h1]
    rw [Bool.not_eq_false] at h1
    by_cases h2 : l.any (fun k => decide (n < k)) = true
    · rw [if_pos h2]
      simp only [List.any_eq_true, decide_eq_true_eq] at h2
      obtain ⟨x, hx, hlt⟩ := h2
      exact ⟨fun h => absurd h (by decide), fun h => by have := h.2.1 x hx; omega⟩
    · rw [if_neg h2]
      have h3 : ∀ x ∈ l, x ≤ n := fun x hx => by
        rcases Int.lt_or_le n x with h | h
        · exact absurd (List.any_eq_true.2 ⟨x, hx, decide_eq_true h⟩) h2
        · exact h
      by_cases h4 : bs.all (mkIn l.length) = true
      · rw [if_pos h4]
        exact ⟨fun _ => ⟨h1, h3, h4⟩, fun _ => rfl⟩
      · rw [if_neg h4]
        exact ⟨fun h => absurd h (by decide), fun h => absurd h.2.2 h4⟩
theorem mkSinceA_mem (n : Int) : ∀ (l : List Int) (i : Nat) (b : Int), b ∈ mkSinceA n i l ↔ ∃ j x, l[j]? = some x ∧ n < x ∧ b = ((i + j : Nat) : Int)
  | [], i, b => by simp [mkSinceA]
  | y :: l, i, b => by
    unfold mkSinceA
    have ih := mkSinceA_mem n l (i + 1) b
    constructor
    · intro h
      split at h
      · rcases List.mem_cons.1 h with h | h
        · exact ⟨0, y, rfl, by assumption, by rw [h]; rfl⟩
        · obtain ⟨j, x, h1, h2, h3⟩ := ih.1 h
          exact ⟨j + 1, x, by simpa using h1, h2, by rw [h3]; omega⟩
      · obtain ⟨j, x, h1, h2, h3⟩ := ih.1 h
        exact ⟨j + 1, x, by simpa using h1, h2, by rw [h3]; omega⟩
    · rintro ⟨j, x, h1, h2, h3⟩
      cases j with
      | zero =>
        simp at h1
        subst h1
        rw [if_pos h2, h3]
        exact List.mem_cons_self
      | succ j =>
        have h4 := ih.2 ⟨j, x, by simpa using h1, h2, by rw [h3]; omega⟩
        split
        · exact List.mem_cons_of_mem _ h4
        · exact h4
theorem mkSince_mem {l : List Int} {n b : Int} : b ∈ mkSince l n ↔ ∃ j : Nat, ∃ x, l[j]? = some x ∧ n < x ∧ b = (j : Int) := by
  unfold mkSince
  rw [mkSinceA_mem]
  constructor
  · rintro ⟨j, x, h1, h2, h3⟩
    exact ⟨j, x, h1, h2, by rw [h3]; omega⟩
  · rintro ⟨j, x, h1, h2, h3⟩
    exact ⟨j, x, h1, h2, by rw [h3]; omega⟩
/-- What has been noted up to number i, of k blocks. -/
structure MkTold (k : Nat) (l : List Int) (last : Int → Int) (i : Nat) : Prop where
  len : l.length = k
  get : ∀ j, j < k → l[j]? = some (last j)
  le : ∀ x ∈ l, 0 ≤ x ∧ x ≤ i
theorem MkTold.no {k : Nat} {l : List Int} {last : Int → Int} {i : Nat} (h : MkTold k l last i) : MkTold k l last (i + 1) :=
  ⟨h.len, h.get, fun x hx => by have := h.le x hx; omega⟩
theorem MkTold.note {k : Nat} {l : List Int} {last : Int → Int} {i : Nat} (h : MkTold k l last i) (bs : List Int) (hb : bs.all (mkIn k) = true) :
    MkTold k (mkSet l ((i + 1 : Nat) : Int) bs) (fun b => if b ∈ bs then ((i + 1 : Nat) : Int) else last b) (i + 1) := by
  have hb2 : bs.all (mkIn l.length) = true := by rw [h.len]; exact hb
  have hg : ∀ j, j < k → (mkSet l ((i + 1 : Nat) : Int) bs)[j]? = some (if (j : Int) ∈ bs then ((i + 1 : Nat) : Int) else last j) := by
    intro j hj
    rw [mkSet_get _ bs l hb2 j (by rw [h.len]; exact hj), h.get j hj]
    split <;> rfl
  refine ⟨by rw [mkSet_length, h.len], hg, fun x hx => ?_⟩
  obtain ⟨j, hj⟩ := List.mem_iff_getElem?.1 hx
  have hjk : j < k := by
    have h1 := (List.getElem?_eq_some_iff.1 hj).1
    rw [mkSet_length, h.len] at h1
    exact h1
  rw [hg j hjk] at hj
  cases hj
  split
  · omega
  · have := h.le _ (List.mem_iff_getElem?.2 ⟨j, h.get j hjk⟩)
    omega
theorem MkTold.err {k : Nat} {l : List Int} {last : Int → Int} {i : Nat} (h : MkTold k l last i) (hi : i < 1000000) (bs : List Int) : mkErr l ((i + 1 : Nat) : Int) bs = 0 ↔ bs.all (mkIn k) = true := by
  rw [mkErr_ok, h.len]
  constructor
  · exact fun h => h.2.2
  · intro hb
    refine ⟨?_, fun x hx => by have := h.le x hx; omega, hb⟩
    unfold mkNum
    rw [decide_eq_true_eq]
    omega
/-- What Since tells is what was noted above. -/
theorem MkTold.since {k : Nat} {l : List Int} {last : Int → Int} {i : Nat} (h : MkTold k l last i) (n : Int) (b : Nat) (hb : b < k) : (b : Int) ∈ mkSince l n ↔ n < last b := by
  rw [mkSince_mem]
  constructor
  · rintro ⟨j, x, h1, h2, h3⟩
    have e : b = j := by omega
    subst e
    rw [h.get b hb] at h1
    cases h1
    exact h2
  · intro h1
    exact ⟨b, _, h.get b hb, h1, rfl⟩
theorem MkTold.zero (k : Nat) : MkTold k (List.replicate k 0) (fun _ => 0) 0 :=
  ⟨by simp, fun j hj => by rw [List.getElem?_replicate, if_pos hj], fun x hx => by rw [List.eq_of_mem_replicate hx]; decide⟩
end Go.Proofs.Yteijgdfgdhafnaa
