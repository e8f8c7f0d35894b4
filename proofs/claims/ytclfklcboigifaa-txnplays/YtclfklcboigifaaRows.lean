/-
  No cell of these rows narrows 'for every input' (looked for: loops, veiled, ifaces, maps, wideKeys, modest, calm, conditions, laid).
  DERIVED. THE GIVEN ROWS OF THIS SEAT. 3 by the template 'for every input the law returns true; each argument reads behind the call as it read before'; 0 by the template 'total and deterministic' (their statements: YtclfklcboigifaaTotals.lean).
  GIVEN WITH THE SEED: the statements are not yours to turn. If you find one false, say at which input.
  Laid BY PROGRAM, IN A SANDBOX (cutbox-rows.mjs): the forced cells as the released guide's own fill.sh prints them over the translation c6df898238f275ed… (all of the seat's roots in one cut). By AI agents, Wed Nov 11 2026. No macro, syntax, notation, axiom, sorry.
-/
import Derived.Test.YtclfklcboigifaaChecked
import GoSem.Claim
import GoSem.ClaimJoined
import GoSem.ClaimMapViews
import Derived.JoinedTies
import Derived.KernelRfl
namespace Go.Proofs.Ytclfklcboigifaa
/- THE CELL 'sum', in the pinned program and in every row, IS THE sha256 OF THE DUMP (.gsa) THAT YtclfklcboigifaaProg.lean LOADS. Nothing in Lean hashes anything: it is a label: what it is worth is what the hold of that sum in a sandbox is worth. -/
noncomputable def Try.pinned : Pinned := { name := "ytclfklcboigifaa", sum := "c6df898238f275edb09e8c74378703bca86f7cc33966f74c8f2f7aad4644ae8c", checked := Try.checked }
namespace Rows
def none {H : Type} : Left H := { results := [], args := [] }

/-- 'breviarylaw13.TxnPlays': WHATEVER THE INPUT: true; the input reads as it did. -/
def txnPlaysSpec : ChangeSpec := { name := "txnPlays", fn := fun _ => fun
  | [d1, d2] => { results := [.lit (.bool true)], args := [d1, d2] }
  | _ => none }
def txnPlaysRow : OpenClaim := { program := "ytclfklcboigifaa", sum := "c6df898238f275edb09e8c74378703bca86f7cc33966f74c8f2f7aad4644ae8c", func := "breviary/breviarylaw13.TxnPlays", spec := "txnPlays", inPlace := ["slices.overlaps[breviary/order.entry[int, []breviary/api.Write]]", "slices.overlaps[breviary/order.entry[int, []byte]]"], unfollowed := true, recurses := true, apart := false }
def TxnPlaysSaid : Prop := txnPlaysRow.holds Try.pinned (OpenSpec.ofChange txnPlaysSpec)

/-- ITS FALSE NEIGHBOUR: 'it returns false'. Refute it at one input. -/
def txnPlaysWrong : ChangeSpec := { name := "txnPlays", fn := fun _ => fun
  | [d1, d2] => { results := [.lit (.bool false)], args := [d1, d2] }
  | _ => none }
def TxnPlaysWrongFalsely : Prop := txnPlaysRow.holds Try.pinned (OpenSpec.ofChange txnPlaysWrong)

/-- 'breviarylaw13.TxnApart': WHATEVER THE INPUT: true; the input reads as it did. -/
def txnApartSpec : ChangeSpec := { name := "txnApart", fn := fun _ => fun
  | [d] => { results := [.lit (.bool true)], args := [d] }
  | _ => none }
def txnApartRow : OpenClaim := { program := "ytclfklcboigifaa", sum := "c6df898238f275edb09e8c74378703bca86f7cc33966f74c8f2f7aad4644ae8c", func := "breviary/breviarylaw13.TxnApart", spec := "txnApart", inPlace := ["slices.overlaps[breviary/order.entry[int, []breviary/api.Write]]", "slices.overlaps[breviary/order.entry[int, []byte]]"], unfollowed := true, recurses := true, apart := false }
def TxnApartSaid : Prop := txnApartRow.holds Try.pinned (OpenSpec.ofChange txnApartSpec)

/-- ITS FALSE NEIGHBOUR: 'it returns false'. Refute it at one input. -/
def txnApartWrong : ChangeSpec := { name := "txnApart", fn := fun _ => fun
  | [d] => { results := [.lit (.bool false)], args := [d] }
  | _ => none }
def TxnApartWrongFalsely : Prop := txnApartRow.holds Try.pinned (OpenSpec.ofChange txnApartWrong)

/-- 'breviarylaw13.TxnWrites': WHATEVER THE INPUT: true; the input reads as it did. -/
def txnWritesSpec : ChangeSpec := { name := "txnWrites", fn := fun _ => fun
  | [d] => { results := [.lit (.bool true)], args := [d] }
  | _ => none }
def txnWritesRow : OpenClaim := { program := "ytclfklcboigifaa", sum := "c6df898238f275edb09e8c74378703bca86f7cc33966f74c8f2f7aad4644ae8c", func := "breviary/breviarylaw13.TxnWrites", spec := "txnWrites", inPlace := ["slices.overlaps[breviary/order.entry[int, []breviary/api.Write]]", "slices.overlaps[breviary/order.entry[int, []byte]]"], unfollowed := true, recurses := true, apart := false }
def TxnWritesSaid : Prop := txnWritesRow.holds Try.pinned (OpenSpec.ofChange txnWritesSpec)

/-- ITS FALSE NEIGHBOUR: 'it returns false'. Refute it at one input. -/
def txnWritesWrong : ChangeSpec := { name := "txnWrites", fn := fun _ => fun
  | [d] => { results := [.lit (.bool false)], args := [d] }
  | _ => none }
def TxnWritesWrongFalsely : Prop := txnWritesRow.holds Try.pinned (OpenSpec.ofChange txnWritesWrong)

/- THE SECOND FORM. 'bulk': how many values and letters a reading holds, each counted each time it is reached (what is shared counts as often as it is met; a slice's spare places count too). A statement '..UptoSaid' is the law's where the arguments, and the package variables that the reading takes, are together of bulk at most 1048576: NARROWER than '..Said'. Prove '..Said' where nothing that the law and all that it calls make is longer than what came in: it says more and counts as full. Else prove '..UptoSaid'. A law counts once. -/
mutual
def uptoBulk {H : Type} : DataW H → Nat
  | .lit (.string bytes) => bytes.length + 1
  | .lit _ => 1
  | .nil => 1
  | .ptr d => uptoBulk d + 1
  | .slice elems spare => uptoBulkAll elems + uptoBulkAll spare + 1
  | .agg parts => uptoBulkAll parts + 1
  | .iface _ d => uptoBulk d + 1
  | .map entries => uptoBulkEntries entries + 1
  | .held _ => 1
def uptoBulkAll {H : Type} : List (DataW H) → Nat
  | [] => 0
  | d :: r => uptoBulk d + uptoBulkAll r
def uptoBulkEntries {H : Type} : List (Lit × DataW H) → Nat
  | [] => 0
  | x :: r => uptoBulkEntry x + uptoBulkEntries r
def uptoBulkEntry {H : Type} : Lit × DataW H → Nat
  | (.string bytes, d) => bytes.length + uptoBulk d + 1
  | (_, d) => uptoBulk d + 1
 end
def uptoSmall : (H : Type) → List (DataW H) → Bool := fun _ ds => decide (uptoBulkAll ds ≤ 1048576)
def OpenSpec.upto (s : _root_.Go.ChangeSpec) : _root_.Go.OpenSpec := { _root_.Go.OpenSpec.ofChange s with cond := some uptoSmall }

/-- 'breviarylaw13.TxnPlays', WHERE WHAT IT READS IS OF BULK AT MOST 1048576: true; the input reads as it did. -/
def txnPlaysUptoRow : OpenClaim := { program := "ytclfklcboigifaa", sum := "c6df898238f275edb09e8c74378703bca86f7cc33966f74c8f2f7aad4644ae8c", func := "breviary/breviarylaw13.TxnPlays", spec := "txnPlays", inPlace := ["slices.overlaps[breviary/order.entry[int, []breviary/api.Write]]", "slices.overlaps[breviary/order.entry[int, []byte]]"], unfollowed := true, recurses := true, apart := false, narrowed := true }
def TxnPlaysUptoSaid : Prop := txnPlaysUptoRow.holds Try.pinned (OpenSpec.upto txnPlaysSpec)

/-- 'breviarylaw13.TxnApart', WHERE WHAT IT READS IS OF BULK AT MOST 1048576: true; the input reads as it did. -/
def txnApartUptoRow : OpenClaim := { program := "ytclfklcboigifaa", sum := "c6df898238f275edb09e8c74378703bca86f7cc33966f74c8f2f7aad4644ae8c", func := "breviary/breviarylaw13.TxnApart", spec := "txnApart", inPlace := ["slices.overlaps[breviary/order.entry[int, []breviary/api.Write]]", "slices.overlaps[breviary/order.entry[int, []byte]]"], unfollowed := true, recurses := true, apart := false, narrowed := true }
def TxnApartUptoSaid : Prop := txnApartUptoRow.holds Try.pinned (OpenSpec.upto txnApartSpec)

/-- 'breviarylaw13.TxnWrites', WHERE WHAT IT READS IS OF BULK AT MOST 1048576: true; the input reads as it did. -/
def txnWritesUptoRow : OpenClaim := { program := "ytclfklcboigifaa", sum := "c6df898238f275edb09e8c74378703bca86f7cc33966f74c8f2f7aad4644ae8c", func := "breviary/breviarylaw13.TxnWrites", spec := "txnWrites", inPlace := ["slices.overlaps[breviary/order.entry[int, []breviary/api.Write]]", "slices.overlaps[breviary/order.entry[int, []byte]]"], unfollowed := true, recurses := true, apart := false, narrowed := true }
def TxnWritesUptoSaid : Prop := txnWritesUptoRow.holds Try.pinned (OpenSpec.upto txnWritesSpec)

end Rows
end Go.Proofs.Ytclfklcboigifaa
