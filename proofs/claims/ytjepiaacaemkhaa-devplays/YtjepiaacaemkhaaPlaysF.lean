/-
  An operation, as it is handed in.
-/
import Derived.Test.YtjepiaacaemkhaaPlaysD
namespace Go.Proofs.Ytjepiaacaemkhaa
open Go.RowKit Go.Shelf
set_option linter.unusedSimpArgs false
set_option linter.unusedVariables false

/-- An operation, as it was handed in. -/
def OpIs (w : World) (vs : List Value) : Prop :=
  ∃ (kd a m : Int) (bo : Option Addr) (bc : Nat) (B : List Value) (kv : Value) (ks : List Bool),
    vs = [.int .i64 kd, .int .i64 a, .int .i64 m, .slice bo B.length bc, kv] ∧ (-9223372036854775808 ≤ kd ∧ kd ≤ 9223372036854775807) ∧ a ≤ 9223372036854775807 ∧ m ≤ 9223372036854775807 ∧
    B.length ≤ bc ∧ B.length ≤ 9223372036854775807 ∧ (∀ v ∈ B, isByte v) ∧ (0 < B.length → ∃ sb so, bo = some ⟨sb, so, none⟩ ∧ Cells w sb so B) ∧ keepIs w kv ks (fun k => w.heap.size ≤ k)

end Go.Proofs.Ytjepiaacaemkhaa
