/-
  What the bound gives for lists of lists.
-/
import Derived.Test.YtcdlgaknpmlfeaaRMergeB
import Derived.Test.YtcdlgaknpmlfeaaROpen
namespace Go.Proofs.Ytcdlgaknpmlfeaa
set_option linter.unusedSimpArgs false
set_option linter.unusedVariables false

theorem ls_bounds {ls : List (Sl × List Wv)} {n : Nat} (h : (ls.map fun x => wsBulk x.2).sum ≤ n) : 3 * (allV ls).length ≤ n ∧ ∀ y ∈ allV ls, y.B.length ≤ n := by
  have e : (ls.map fun x => wsBulk x.2).sum = wsBulk (allV ls) := by
    induction ls with
    | nil => rfl
    | cons x l ih =>
      have : allV (x :: l) = x.2 ++ allV l := by simp [allV]
      simp only [List.map_cons, List.sum_cons]
      rw [this, wsBulk_app, ih (by simp only [List.map_cons, List.sum_cons] at h; omega)]
  rw [e] at h
  exact ⟨Nat.le_trans (wsBulk_len _) h, fun y hy => Nat.le_trans (wsBulk_mem hy) h⟩
end Go.Proofs.Ytcdlgaknpmlfeaa
