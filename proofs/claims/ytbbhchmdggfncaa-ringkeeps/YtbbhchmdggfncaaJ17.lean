/-
  What a device is in memory, and as plain data.
-/
import Derived.Test.YtbbhchmdggfncaaJ16
namespace Go.Proofs.Ytbbhchmdggfncaa.D
open Go.RowKit
set_option linter.unusedSimpArgs false
set_option linter.unusedVariables false
set_option maxRecDepth 100000

/-- A device as data: what stays (64 bytes a sector), what waits (a sector's place and its bytes), calls, calls left, off. -/
structure DS where
  st : List Value
  ws : List (Nat × List Value)
  calls : Nat
  left : Int
  off : Bool

def flat (ws : List (Nat × List Value)) : List Value := ws.flatMap fun p => .int .i64 p.1 :: p.2

def okWait (n : Nat) (p : Nat × List Value) : Prop := p.1 < n ∧ p.2.length = 64 ∧ ∀ v ∈ p.2, isByte v

theorem flat_length (n : Nat) : ∀ ws : List (Nat × List Value), (∀ p ∈ ws, okWait n p) → (flat ws).length = ws.length * 65
  | [], _ => rfl
  | p :: ws, h => by
    have := flat_length n ws (fun q hq => h q (List.mem_cons_of_mem _ hq))
    have h2 := (h p List.mem_cons_self).2.1
    simp only [flat, List.flatMap_cons, List.length_append, List.length_cons] at this ⊢
    omega

theorem flat_at (n : Nat) : ∀ (ws : List (Nat × List Value)), (∀ p ∈ ws, okWait n p) → ∀ (k : Nat) (p : Nat × List Value), ws[k]? = some p → ((flat ws).drop (k * 65)).take 65 = .int .i64 p.1 :: p.2
  | [], _, k, p, hp => by simp at hp
  | q :: ws, h, 0, p, hp => by
    simp at hp; subst hp
    have h2 := (h q List.mem_cons_self).2.1
    simp only [flat, List.flatMap_cons, Nat.zero_mul, List.drop_zero]
    rw [List.take_append_of_le_length (by simp; omega), List.take_of_length_le (by simp; omega)]
  | q :: ws, h, k + 1, p, hp => by
    have h2 := (h q List.mem_cons_self).2.1
    have := flat_at n ws (fun q hq => h q (List.mem_cons_of_mem _ hq)) k p (by simpa using hp)
    rw [← this]
    simp only [flat, List.flatMap_cons]
    rw [List.drop_append, List.drop_eq_nil_of_le (by simp; omega), List.nil_append]
    congr 2
    simp only [List.length_cons, h2]
    omega

/-- What stays when of the first k that wait those stay of which kf says so. -/
def laidTo (kf : Nat → Bool) (ws : List (Nat × List Value)) (st : List Value) (k : Nat) : List Value :=
  (List.range k).foldl (fun s i => match ws[i]? with | some p => if kf i then put s (64 * p.1) p.2 else s | none => s) st

theorem laidTo_succ (kf : Nat → Bool) (ws : List (Nat × List Value)) (st : List Value) (k : Nat) (p : Nat × List Value) (h : ws[k]? = some p) :
    laidTo kf ws st (k + 1) = if kf k then put (laidTo kf ws st k) (64 * p.1) p.2 else laidTo kf ws st k := by
  simp [laidTo, List.range_succ, h]

theorem put_byte (L : List Value) (off : Nat) (M : List Value) (h : ∀ v ∈ L, isByte v) (h2 : ∀ v ∈ M, isByte v) : ∀ v ∈ put L off M, isByte v := by
  intro v hv
  simp only [put, List.mem_append] at hv
  rcases hv with (hv | hv) | hv
  · exact h v (List.mem_of_mem_take hv)
  · exact h2 v hv
  · exact h v (List.mem_of_mem_drop hv)

theorem laidTo_ok (kf : Nat → Bool) (n : Nat) (ws : List (Nat × List Value)) (st : List Value) (hw : ∀ p ∈ ws, okWait n p) (hl : st.length = 64 * n) (hb : ∀ v ∈ st, isByte v) :
    ∀ k, k ≤ ws.length → (laidTo kf ws st k).length = 64 * n ∧ ∀ v ∈ laidTo kf ws st k, isByte v
  | 0, _ => ⟨hl, hb⟩
  | k + 1, hk => by
    obtain ⟨h1, h2⟩ := laidTo_ok kf n ws st hw hl hb k (by omega)
    have hp : ws[k]? = some ws[k] := List.getElem?_eq_getElem (by omega)
    have ho := hw ws[k] (List.getElem_mem _)
    rw [laidTo_succ kf ws st k _ hp]
    split
    · exact ⟨by rw [length_put _ _ _ (by rw [h1, ho.2.1]; have := ho.1; omega)]; exact h1, put_byte _ _ _ h2 ho.2.2⟩
    · exact ⟨h1, h2⟩

end Go.Proofs.Ytbbhchmdggfncaa.D
