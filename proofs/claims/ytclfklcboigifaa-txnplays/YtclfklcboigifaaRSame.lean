/-
  bytes.Equal, sameWrite, slices.EqualFunc; bytes.Clone.
-/
import Derived.Test.YtclfklcboigifaaRMergeB
namespace Go.Proofs.Ytclfklcboigifaa
open Go.RowKit Go.Shelf
set_option linter.unusedSimpArgs false
set_option linter.unusedVariables false
set_option maxRecDepth 100000

def sameW (x y : Wv) : Bool := decide (x.blk = y.blk ∧ x.B = y.B)
def sameWs : List Wv → List Wv → Bool
  | [], [] => true
  | x :: a, y :: b => sameW x y && sameWs a b
  | _, _ => false
theorem sameWs_iff : ∀ (a b : List Wv), sameWs a b = true ↔ a.map Wv.wr = b.map Wv.wr
  | [], [] => by simp [sameWs]
  | [], y :: b => by simp [sameWs]
  | x :: a, [] => by simp [sameWs]
  | x :: a, y :: b => by
    rw [sameWs, Bool.and_eq_true, sameWs_iff a b, List.map_cons, List.map_cons, List.cons.injEq]
    simp [sameW, Wv.wr]
theorem sameWs_len : ∀ {a b : List Wv}, a.length ≠ b.length → sameWs a b = false
  | [], [], h => absurd rfl h
  | [], y :: b, _ => rfl
  | x :: a, [], _ => rfl
  | x :: a, y :: b, h => by
    rw [sameWs, sameWs_len (a := a) (b := b) (by simpa using h), Bool.and_false]
theorem sameWs_step {a b : List Wv} {k : Nat} (ha : k < a.length) (hb : k < b.length) : sameWs (a.drop k) (b.drop k) = (sameW a[k] b[k] && sameWs (a.drop (k + 1)) (b.drop (k + 1))) := by
  rw [List.drop_eq_getElem_cons ha, List.drop_eq_getElem_cons hb]
  rfl
end Go.Proofs.Ytclfklcboigifaa
