/-
  A block's 64 bytes, scanned one by one: plain functions over lists.
-/
import Derived.Test.YtcdlgaknpmlfeaaRScan
namespace Go.Proofs.Ytcdlgaknpmlfeaa
set_option linter.unusedSimpArgs false
set_option linter.unusedVariables false

def InB (S0 : List Nat) (E0 : Int) (j : Nat) (S : List Nat) (E : Int) (L : List Nat) : Prop :=
  L.length = 64 ∧ (∀ x ∈ L, x < 256) ∧ S.length ≤ S0.length ∧ (E = 0 → E0 = 0 ∧ j ≤ S0.length ∧ S = S0.drop j ∧ L.take j = S0.take j) ∧ (E ≠ 0 → E0 ≠ 0 ∨ S0.length < 64)
theorem InB.start (S0 : List Nat) (E0 : Int) : InB S0 E0 0 S0 E0 (List.replicate 64 0) :=
  ⟨by simp, by intro x hx; rw [List.eq_of_mem_replicate hx]; decide, Nat.le_refl _, fun h => ⟨h, Nat.zero_le _, by simp, by simp⟩, fun h => .inl h⟩
theorem scan1_yes {S : List Nat} {x : Nat} {R : List Nat} (h : S = x :: R) (hx : x < 256) : scanNum S 0 1 = ((x : Int), R, 0) := by
  subst h
  have := sn1 x R hx
  rwa [show numB x 1 = [x] by simp [numB]; omega] at this
theorem scan_no {S : List Nat} {m : Int} (h : (S.length : Int) < m) : scanNum S 0 m = (0, S, 20) := by
  have hf : firstN S m = none := by
    unfold firstN
    rw [if_neg (by omega)]
  simp [scanNum, hf]
theorem scan_nat (S : List Nat) (E m : Int) : ∃ p : Nat, (scanNum S E m).1 = (p : Int) := by
  unfold scanNum
  split
  · exact ⟨0, rfl⟩
  · split
    · exact ⟨0, rfl⟩
    · exact ⟨_, rfl⟩
theorem InB.step {S0 : List Nat} {E0 : Int} {j : Nat} {S : List Nat} {E : Int} {L : List Nat} (h : InB S0 E0 j S E L) (hj : j < 64) (hS : ∀ x ∈ S, x < 256) {p : Nat} (hp : (scanNum S E 1).1 = (p : Int)) :
    InB S0 E0 (j + 1) (scanNum S E 1).2.1 (scanNum S E 1).2.2 (L.set j (p % 256)) := by
  obtain ⟨h1, h2, h3, h4, h5⟩ := h
  have hL : ∀ x ∈ L.set j (p % 256), x < 256 := by
    intro x hx
    rcases List.mem_or_eq_of_mem_set hx with h | h
    · exact h2 x h
    · rw [h]; exact Nat.mod_lt _ (by decide)
  have hlen := scanNum_len S E 1
  by_cases hE : E = 0
  · subst hE
    obtain ⟨e0, e1, e2, e3⟩ := h4 rfl
    by_cases hlt : j < S0.length
    · have hSx : S = S0[j] :: S0.drop (j + 1) := by rw [e2]; exact List.drop_eq_getElem_cons hlt
      have hx : S0[j] < 256 := hS _ (by rw [hSx]; exact List.mem_cons_self)
      have hsc := scan1_yes hSx hx
      rw [hsc] at hp ⊢
      simp only at hp ⊢
      have hpx : p = S0[j] := by omega
      refine ⟨by simp [h1], hL, by rw [List.length_drop]; omega, fun _ => ⟨e0, by omega, rfl, ?_⟩, fun h => absurd rfl h⟩
      rw [List.take_succ_eq_append_getElem hlt, List.take_set, List.take_succ_eq_append_getElem (by omega), hpx, Nat.mod_eq_of_lt hx, ← e3]
      have hlj : (L.take j).length = j := by rw [List.length_take]; omega
      rw [List.set_append_right _ _ (by omega), hlj, Nat.sub_self]
      rfl
    · have hS0 : S = [] := by rw [e2]; exact List.drop_of_length_le (by omega)
      have hsc := scan_no (S := S) (m := 1) (by rw [hS0]; simp)
      rw [hsc]
      exact ⟨by simp [h1], hL, h3, fun h => absurd h (by simp), fun _ => .inr (by omega)⟩
  · rw [scanNum_err 1 hE] at hp hlen ⊢
    exact ⟨by simp [h1], hL, h3, fun h => absurd h hE, fun _ => h5 hE⟩
theorem InB.fin {S0 : List Nat} {E0 : Int} {S : List Nat} {L : List Nat} (h : InB S0 E0 64 S 0 L) : E0 = 0 ∧ 64 ≤ S0.length ∧ S = S0.drop 64 ∧ L = S0.take 64 := by
  obtain ⟨h1, h2, h3, h4, h5⟩ := h
  obtain ⟨a, b, c, d⟩ := h4 rfl
  exact ⟨a, b, c, by rw [← d, List.take_of_length_le (by omega)]⟩
theorem scan2_bad {S : List Nat} (hS : ∀ x ∈ S, x < 256) (h : (scanNum S 0 2).2.2 ≠ 0) : (scanNum S 0 2).2.1.length < 64 := by
  by_cases hl : 2 ≤ S.length
  · exfalso
    apply h
    have hf := (first_yes hS 2 (by decide) (by decide) hl (by omega)).1
    have hf' : firstN S 2 = some (valN (S.take 2)) := hf
    simp [scanNum, hf']
  · rw [scan_no (by omega)]
    simp
    omega
/-- What the program's way tells of what the reference's way tells. -/
def GW (B : List Nat) (E : Int) (l : List Wr) (S' : List Nat) (E' : Int) : Prop :=
  (E' = 0 ↔ (scanWs (scanNum B E 2).1.toNat (scanNum B E 2).2.1 (scanNum B E 2).2.2).2.2 = 0) ∧ (E' = 0 → scanWs (scanNum B E 2).1.toNat (scanNum B E 2).2.1 (scanNum B E 2).2.2 = (l, S', 0))
end Go.Proofs.Ytcdlgaknpmlfeaa
