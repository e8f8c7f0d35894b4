/-
  No cell of these rows narrows 'for every input' (looked for: loops, veiled, ifaces, maps, wideKeys, modest, calm, conditions, laid).
  DERIVED. THE GIVEN ROWS OF THIS SEAT. 4 by the template 'for every input the law returns true; each argument reads behind the call as it read before'; 0 by the template 'total and deterministic' (their statements: YtcdlgaknpmlfeaaTotals.lean).
  GIVEN WITH THE SEED: the statements are not yours to turn. If you find one false, say at which input.
  Laid BY PROGRAM, IN A SANDBOX (cutbox-rows.mjs): the forced cells as the released guide's own fill.sh prints them over the translation 294cfe120d3be933… (all of the seat's roots in one cut). By AI agents, Wed Nov 11 2026. No macro, syntax, notation, axiom, sorry.
-/
import Derived.Test.YtcdlgaknpmlfeaaChecked
import GoSem.Claim
import GoSem.ClaimJoined
import GoSem.ClaimMapViews
import Derived.JoinedTies
import Derived.KernelRfl
namespace Go.Proofs.Ytcdlgaknpmlfeaa
/- THE CELL 'sum', in the pinned program and in every row, IS THE sha256 OF THE DUMP (.gsa) THAT YtcdlgaknpmlfeaaProg.lean LOADS. Nothing in Lean hashes anything: it is a label: what it is worth is what the hold of that sum in a sandbox is worth. -/
noncomputable def Try.pinned : Pinned := { name := "ytcdlgaknpmlfeaa", sum := "294cfe120d3be9332608b30125ee6ddc21eace35650a8aa9c915b37c3c274c2c", checked := Try.checked }
namespace Rows
def none {H : Type} : Left H := { results := [], args := [] }

/-- 'breviarylaw07.RecordTells': WHATEVER THE INPUT: true; the input reads as it did. -/
def recordTellsSpec : ChangeSpec := { name := "recordTells", fn := fun _ => fun
  | [d1, d2, d3] => { results := [.lit (.bool true)], args := [d1, d2, d3] }
  | _ => none }
def recordTellsRow : OpenClaim := { program := "ytcdlgaknpmlfeaa", sum := "294cfe120d3be9332608b30125ee6ddc21eace35650a8aa9c915b37c3c274c2c", func := "breviary/breviarylaw07.RecordTells", spec := "recordTells", inPlace := ["slices.overlaps[breviary/order.entry[int, []byte]]"], unfollowed := true, recurses := true, apart := false }
def RecordTellsSaid : Prop := recordTellsRow.holds Try.pinned (OpenSpec.ofChange recordTellsSpec)

/-- ITS FALSE NEIGHBOUR: 'it returns false'. Refute it at one input. -/
def recordTellsWrong : ChangeSpec := { name := "recordTells", fn := fun _ => fun
  | [d1, d2, d3] => { results := [.lit (.bool false)], args := [d1, d2, d3] }
  | _ => none }
def RecordTellsWrongFalsely : Prop := recordTellsRow.holds Try.pinned (OpenSpec.ofChange recordTellsWrong)

/-- 'breviarylaw07.RecordMerges': WHATEVER THE INPUT: true; the input reads as it did. -/
def recordMergesSpec : ChangeSpec := { name := "recordMerges", fn := fun _ => fun
  | [d] => { results := [.lit (.bool true)], args := [d] }
  | _ => none }
def recordMergesRow : OpenClaim := { program := "ytcdlgaknpmlfeaa", sum := "294cfe120d3be9332608b30125ee6ddc21eace35650a8aa9c915b37c3c274c2c", func := "breviary/breviarylaw07.RecordMerges", spec := "recordMerges", inPlace := ["slices.overlaps[breviary/order.entry[int, []byte]]"], unfollowed := true, recurses := true, apart := false }
def RecordMergesSaid : Prop := recordMergesRow.holds Try.pinned (OpenSpec.ofChange recordMergesSpec)

/-- ITS FALSE NEIGHBOUR: 'it returns false'. Refute it at one input. -/
def recordMergesWrong : ChangeSpec := { name := "recordMerges", fn := fun _ => fun
  | [d] => { results := [.lit (.bool false)], args := [d] }
  | _ => none }
def RecordMergesWrongFalsely : Prop := recordMergesRow.holds Try.pinned (OpenSpec.ofChange recordMergesWrong)

/-- 'breviarylaw07.RecordBack': WHATEVER THE INPUT: true; the input reads as it did. -/
def recordBackSpec : ChangeSpec := { name := "recordBack", fn := fun _ => fun
  | [d1, d2] => { results := [.lit (.bool true)], args := [d1, d2] }
  | _ => none }
def recordBackRow : OpenClaim := { program := "ytcdlgaknpmlfeaa", sum := "294cfe120d3be9332608b30125ee6ddc21eace35650a8aa9c915b37c3c274c2c", func := "breviary/breviarylaw07.RecordBack", spec := "recordBack", inPlace := ["slices.overlaps[breviary/order.entry[int, []byte]]"], unfollowed := true, recurses := true, apart := false }
def RecordBackSaid : Prop := recordBackRow.holds Try.pinned (OpenSpec.ofChange recordBackSpec)

/-- ITS FALSE NEIGHBOUR: 'it returns false'. Refute it at one input. -/
def recordBackWrong : ChangeSpec := { name := "recordBack", fn := fun _ => fun
  | [d1, d2] => { results := [.lit (.bool false)], args := [d1, d2] }
  | _ => none }
def RecordBackWrongFalsely : Prop := recordBackRow.holds Try.pinned (OpenSpec.ofChange recordBackWrong)

/-- 'breviarylaw07.RecordJoins': WHATEVER THE INPUT: true; the input reads as it did. -/
def recordJoinsSpec : ChangeSpec := { name := "recordJoins", fn := fun _ => fun
  | [d1, d2, d3] => { results := [.lit (.bool true)], args := [d1, d2, d3] }
  | _ => none }
def recordJoinsRow : OpenClaim := { program := "ytcdlgaknpmlfeaa", sum := "294cfe120d3be9332608b30125ee6ddc21eace35650a8aa9c915b37c3c274c2c", func := "breviary/breviarylaw07.RecordJoins", spec := "recordJoins", inPlace := ["slices.overlaps[breviary/order.entry[int, []byte]]"], unfollowed := true, recurses := true, apart := false }
def RecordJoinsSaid : Prop := recordJoinsRow.holds Try.pinned (OpenSpec.ofChange recordJoinsSpec)

/-- ITS FALSE NEIGHBOUR: 'it returns false'. Refute it at one input. -/
def recordJoinsWrong : ChangeSpec := { name := "recordJoins", fn := fun _ => fun
  | [d1, d2, d3] => { results := [.lit (.bool false)], args := [d1, d2, d3] }
  | _ => none }
def RecordJoinsWrongFalsely : Prop := recordJoinsRow.holds Try.pinned (OpenSpec.ofChange recordJoinsWrong)

/- THE SECOND FORM. 'bulk': how many values and letters a reading holds, each counted each time it is reached (what is shared counts as often as it is met; a slice's spare places count too). A statement '..UptoSaid' is the law's where the arguments, and the package variables that the reading takes, are together of bulk at most 1048576: NARROWER than '..Said'. Prove '..Said' where nothing that the law and all that it calls make is longer than what came in: it says more and counts as full. Else prove '..UptoSaid'. A law counts once. -/
mutual
def uptoBulk {H : Type} : DataW H → Nat
  | .lit (.string bytes) => bytes.length + 1
  | .lit _ => 1
  | .nil => 1
  | .ptr d => uptoBulk d + 1
  | .slice elems spare => uptoBulkAll elems + uptoBulkAll spare + 1
  | .agg parts => uptoBulkAll parts + 1
  | .iface _ d => uptoBulk d + 1
  | .map entries => uptoBulkEntries entries + 1
  | .held _ => 1
def uptoBulkAll {H : Type} : List (DataW H) → Nat
  | [] => 0
  | d :: r => uptoBulk d + uptoBulkAll r
def uptoBulkEntries {H : Type} : List (Lit × DataW H) → Nat
  | [] => 0
  | x :: r => uptoBulkEntry x + uptoBulkEntries r
def uptoBulkEntry {H : Type} : Lit × DataW H → Nat
  | (.string bytes, d) => bytes.length + uptoBulk d + 1
  | (_, d) => uptoBulk d + 1
 end
def uptoSmall : (H : Type) → List (DataW H) → Bool := fun _ ds => decide (uptoBulkAll ds ≤ 1048576)
def OpenSpec.upto (s : _root_.Go.ChangeSpec) : _root_.Go.OpenSpec := { _root_.Go.OpenSpec.ofChange s with cond := some uptoSmall }

/-- 'breviarylaw07.RecordTells', WHERE WHAT IT READS IS OF BULK AT MOST 1048576: true; the input reads as it did. -/
def recordTellsUptoRow : OpenClaim := { program := "ytcdlgaknpmlfeaa", sum := "294cfe120d3be9332608b30125ee6ddc21eace35650a8aa9c915b37c3c274c2c", func := "breviary/breviarylaw07.RecordTells", spec := "recordTells", inPlace := ["slices.overlaps[breviary/order.entry[int, []byte]]"], unfollowed := true, recurses := true, apart := false, narrowed := true }
def RecordTellsUptoSaid : Prop := recordTellsUptoRow.holds Try.pinned (OpenSpec.upto recordTellsSpec)

/-- 'breviarylaw07.RecordMerges', WHERE WHAT IT READS IS OF BULK AT MOST 1048576: true; the input reads as it did. -/
def recordMergesUptoRow : OpenClaim := { program := "ytcdlgaknpmlfeaa", sum := "294cfe120d3be9332608b30125ee6ddc21eace35650a8aa9c915b37c3c274c2c", func := "breviary/breviarylaw07.RecordMerges", spec := "recordMerges", inPlace := ["slices.overlaps[breviary/order.entry[int, []byte]]"], unfollowed := true, recurses := true, apart := false, narrowed := true }
def RecordMergesUptoSaid : Prop := recordMergesUptoRow.holds Try.pinned (OpenSpec.upto recordMergesSpec)

/-- 'breviarylaw07.RecordBack', WHERE WHAT IT READS IS OF BULK AT MOST 1048576: true; the input reads as it did. -/
def recordBackUptoRow : OpenClaim := { program := "ytcdlgaknpmlfeaa", sum := "294cfe120d3be9332608b30125ee6ddc21eace35650a8aa9c915b37c3c274c2c", func := "breviary/breviarylaw07.RecordBack", spec := "recordBack", inPlace := ["slices.overlaps[breviary/order.entry[int, []byte]]"], unfollowed := true, recurses := true, apart := false, narrowed := true }
def RecordBackUptoSaid : Prop := recordBackUptoRow.holds Try.pinned (OpenSpec.upto recordBackSpec)

/-- 'breviarylaw07.RecordJoins', WHERE WHAT IT READS IS OF BULK AT MOST 1048576: true; the input reads as it did. -/
def recordJoinsUptoRow : OpenClaim := { program := "ytcdlgaknpmlfeaa", sum := "294cfe120d3be9332608b30125ee6ddc21eace35650a8aa9c915b37c3c274c2c", func := "breviary/breviarylaw07.RecordJoins", spec := "recordJoins", inPlace := ["slices.overlaps[breviary/order.entry[int, []byte]]"], unfollowed := true, recurses := true, apart := false, narrowed := true }
def RecordJoinsUptoSaid : Prop := recordJoinsUptoRow.holds Try.pinned (OpenSpec.upto recordJoinsSpec)

end Rows
end Go.Proofs.Ytcdlgaknpmlfeaa
