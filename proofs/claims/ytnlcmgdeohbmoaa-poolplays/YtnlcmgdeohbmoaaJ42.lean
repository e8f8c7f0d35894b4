/-
  The document's Save, without memory.
-/
import Derived.Test.YtnlcmgdeohbmoaaPrPutW
namespace Go.Proofs.Ytnlcmgdeohbmoaa
open Go.RowKit Go.Shelf
set_option linter.unusedSimpArgs false
set_option linter.unusedVariables false
set_option maxRecDepth 100000

theorem DOk.spent {s : D.DS} {nd : Nat} (h : DOk s nd) : DOk s.spent nd := by
  have h1 := h.l1
  have h2 := h.l2
  obtain ⟨e1, e2⟩ := D.DS.spent_ws s
  refine ⟨h.n2, by rw [e2]; exact h.hl, by rw [e2]; exact h.hB, by rw [e1]; exact h.ok, ?_, ?_⟩
  · unfold D.DS.spent
    split
    · exact h1
    · show -1 ≤ (if 0 < s.left then s.left - 1 else s.left)
      split <;> omega
  · unfold D.DS.spent
    split
    · exact h2
    · show (if 0 < s.left then s.left - 1 else s.left) ≤ _
      split <;> omega
theorem DOk.wDev {s : D.DS} {nd : Nat} (h : DOk s nd) {a : Nat} (ha : a + 1 ≤ nd) {A : List Nat} (hA : A.length = 64) (hB : ∀ x ∈ A, x < 256) : DOk (wDev s a 1 A) nd := by
  unfold Go.Proofs.Ytnlcmgdeohbmoaa.wDev
  split
  · exact h
  · split
    · exact h.spent
    · have h2 := h.spent
      refine ⟨h2.n2, h2.hl, h2.hB, ?_, h2.l1, h2.l2⟩
      intro p hp
      rcases List.mem_append.1 hp with hp | hp
      · exact h.ok p hp
      · simp only [D.secs, List.range_one, List.map_cons, List.map_nil, Nat.add_zero, D.sec, Nat.mul_zero, List.drop_zero, List.mem_singleton] at hp
        subst hp
        have e : ((BV A).take 64) = BV A := List.take_of_length_le (by rw [BV_length, hA]; exact Nat.le_refl _)
        refine ⟨by show a < nd; omega, ?_, ?_⟩
        · show ((BV A).take 64).length = 64
          rw [e, BV_length, hA]
        · show ∀ v ∈ (BV A).take 64, D.isByte v
          rw [e]
          exact BV_isByte hB
theorem DOk.flushed {s : D.DS} {nd : Nat} (h : DOk s nd) : DOk s.flushed nd := by
  unfold D.DS.flushed
  split
  · exact h
  · split
    · exact h.spent
    · have h2 := h.spent
      have h3 := D.laidTo_ok (fun _ => true) nd s.ws s.st h.ok h.hl h.hB s.ws.length (Nat.le_refl _)
      exact ⟨h2.n2, h3.1, h3.2, by simp, h2.l1, h2.l2⟩
/-- One turn of Save's loop. -/
def svStep (fr : Nat) (H : List (List Nat)) (T : List Bool) (i : Nat) (x : D.DS × Int) : D.DS × Int := if T.getD i false = true ∧ x.2 = 0 then (wDev x.1 (fr + i) 1 (H.getD i []), wErr x.1) else x
def svN (fr : Nat) (H : List (List Nat)) (T : List Bool) (s : D.DS) : Nat → D.DS × Int
  | 0 => (s, 0)
  | k + 1 => svStep fr H T k (svN fr H T s k)
/-- What is dirty is in hand, whole. -/
def Whole (H : List (List Nat)) (T : List Bool) : Prop := ∀ k, T.getD k false = true → (H.getD k []).length = 64 ∧ ∀ x ∈ H.getD k [], x < 256
theorem svN_ok {fr nd : Nat} {H : List (List Nat)} {T : List Bool} {s : D.DS} (hs : DOk s nd) (hw : Whole H T) : ∀ k, fr + k ≤ nd → DOk (svN fr H T s k).1 nd
  | 0, _ => hs
  | k + 1, h => by
    have ih := svN_ok (fr := fr) (s := s) hs hw k (by omega)
    show DOk (svStep fr H T k _).1 nd
    unfold svStep
    split
    · rename_i hh
      exact ih.wDev (by omega) (hw k hh.1).1 (hw k hh.1).2
    · exact ih
theorem svN_bound (fr : Nat) (H : List (List Nat)) (T : List Bool) (s : D.DS) : ∀ k, (svN fr H T s k).1.calls ≤ s.calls + k ∧ (svN fr H T s k).1.ws.length ≤ s.ws.length + k
  | 0 => by simp [svN]
  | k + 1 => by
    have ih := svN_bound fr H T s k
    obtain ⟨i1, i2⟩ := ih
    show (svStep fr H T k _).1.calls ≤ _ ∧ (svStep fr H T k _).1.ws.length ≤ _
    unfold svStep
    split
    · have h1 := wDev_calls (svN fr H T s k).1 (fr + k) 1 (H.getD k [])
      have h2 := wDev_ws (svN fr H T s k).1 (fr + k) 1 (H.getD k [])
      refine ⟨Nat.le_trans h1 ?_, Nat.le_trans h2 ?_⟩ <;> omega
    · omega
theorem svN_cases (fr : Nat) (H : List (List Nat)) (T : List Bool) (s : D.DS) : ∀ k, (svN fr H T s k).2 = 0 ∨ (svN fr H T s k).2 = 10
  | 0 => .inl rfl
  | k + 1 => by
    show (svStep fr H T k _).2 = 0 ∨ (svStep fr H T k _).2 = 10
    unfold svStep
    split
    · exact wErr_cases _
    · exact svN_cases fr H T s k
def svD (fr n : Nat) (H : List (List Nat)) (T : List Bool) (s : D.DS) : D.DS := if (svN fr H T s n).2 = 0 then (svN fr H T s n).1.flushed else (svN fr H T s n).1
def svE (fr n : Nat) (H : List (List Nat)) (T : List Bool) (s : D.DS) : Int := if (svN fr H T s n).2 = 0 then (svN fr H T s n).1.errF else (svN fr H T s n).2
def svT (fr n : Nat) (H : List (List Nat)) (T : List Bool) (s : D.DS) : List Bool := if svE fr n H T s = 0 then noT n else T
end Go.Proofs.Ytnlcmgdeohbmoaa
