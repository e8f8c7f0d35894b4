/-
  No cell of these rows narrows 'for every input' (looked for: loops, veiled, ifaces, maps, wideKeys, modest, calm, conditions, laid).
  DERIVED. THE GIVEN ROWS OF THIS SEAT. 3 by the template 'for every input the law returns true; each argument reads behind the call as it read before'; 0 by the template 'total and deterministic' (their statements: YtapoagpkjngjpaaTotals.lean).
  GIVEN WITH THE SEED: the statements are not yours to turn. If you find one false, say at which input.
  Laid BY PROGRAM, IN A SANDBOX (cutbox-rows.mjs): the forced cells as the released guide's own fill.sh prints them over the translation 741dd4b341883ea3… (all of the seat's roots in one cut). By AI agents, Wed Nov 11 2026. No macro, syntax, notation, axiom, sorry.
-/
import Derived.Test.YtapoagpkjngjpaaChecked
import GoSem.Claim
import GoSem.ClaimJoined
import GoSem.ClaimMapViews
import Derived.JoinedTies
import Derived.KernelRfl
namespace Go.Proofs.Ytapoagpkjngjpaa
/- THE CELL 'sum', in the pinned program and in every row, IS THE sha256 OF THE DUMP (.gsa) THAT YtapoagpkjngjpaaProg.lean LOADS. Nothing in Lean hashes anything: it is a label: what it is worth is what the hold of that sum in a sandbox is worth. -/
noncomputable def Try.pinned : Pinned := { name := "ytapoagpkjngjpaa", sum := "741dd4b341883ea3d1f3547fa04e5cfbf6569b7618a8dcd87fa2e301243955e3", checked := Try.checked }
namespace Rows
def none {H : Type} : Left H := { results := [], args := [] }

/-- 'breviarylaw09.ControlTells': WHATEVER THE INPUT: true; the input reads as it did. -/
def controlTellsSpec : ChangeSpec := { name := "controlTells", fn := fun _ => fun
  | [d1, d2] => { results := [.lit (.bool true)], args := [d1, d2] }
  | _ => none }
def controlTellsRow : OpenClaim := { program := "ytapoagpkjngjpaa", sum := "741dd4b341883ea3d1f3547fa04e5cfbf6569b7618a8dcd87fa2e301243955e3", func := "breviary/breviarylaw09.ControlTells", spec := "controlTells", unfollowed := true, recurses := true, apart := false }
def ControlTellsSaid : Prop := controlTellsRow.holds Try.pinned (OpenSpec.ofChange controlTellsSpec)

/-- ITS FALSE NEIGHBOUR: 'it returns false'. Refute it at one input. -/
def controlTellsWrong : ChangeSpec := { name := "controlTells", fn := fun _ => fun
  | [d1, d2] => { results := [.lit (.bool false)], args := [d1, d2] }
  | _ => none }
def ControlTellsWrongFalsely : Prop := controlTellsRow.holds Try.pinned (OpenSpec.ofChange controlTellsWrong)

/-- 'breviarylaw09.ControlCrash': WHATEVER THE INPUT: true; the input reads as it did. -/
def controlCrashSpec : ChangeSpec := { name := "controlCrash", fn := fun _ => fun
  | [d1, d2, d3] => { results := [.lit (.bool true)], args := [d1, d2, d3] }
  | _ => none }
def controlCrashRow : OpenClaim := { program := "ytapoagpkjngjpaa", sum := "741dd4b341883ea3d1f3547fa04e5cfbf6569b7618a8dcd87fa2e301243955e3", func := "breviary/breviarylaw09.ControlCrash", spec := "controlCrash", unfollowed := true, recurses := true, apart := false }
def ControlCrashSaid : Prop := controlCrashRow.holds Try.pinned (OpenSpec.ofChange controlCrashSpec)

/-- ITS FALSE NEIGHBOUR: 'it returns false'. Refute it at one input. -/
def controlCrashWrong : ChangeSpec := { name := "controlCrash", fn := fun _ => fun
  | [d1, d2, d3] => { results := [.lit (.bool false)], args := [d1, d2, d3] }
  | _ => none }
def ControlCrashWrongFalsely : Prop := controlCrashRow.holds Try.pinned (OpenSpec.ofChange controlCrashWrong)

/-- 'breviarylaw09.ControlTurns': WHATEVER THE INPUT: true; the input reads as it did. -/
def controlTurnsSpec : ChangeSpec := { name := "controlTurns", fn := fun _ => fun
  | [d] => { results := [.lit (.bool true)], args := [d] }
  | _ => none }
def controlTurnsRow : OpenClaim := { program := "ytapoagpkjngjpaa", sum := "741dd4b341883ea3d1f3547fa04e5cfbf6569b7618a8dcd87fa2e301243955e3", func := "breviary/breviarylaw09.ControlTurns", spec := "controlTurns", unfollowed := true, recurses := true, apart := false }
def ControlTurnsSaid : Prop := controlTurnsRow.holds Try.pinned (OpenSpec.ofChange controlTurnsSpec)

/-- ITS FALSE NEIGHBOUR: 'it returns false'. Refute it at one input. -/
def controlTurnsWrong : ChangeSpec := { name := "controlTurns", fn := fun _ => fun
  | [d] => { results := [.lit (.bool false)], args := [d] }
  | _ => none }
def ControlTurnsWrongFalsely : Prop := controlTurnsRow.holds Try.pinned (OpenSpec.ofChange controlTurnsWrong)

/- THE SECOND FORM. 'bulk': how many values and letters a reading holds, each counted each time it is reached (what is shared counts as often as it is met; a slice's spare places count too). A statement '..UptoSaid' is the law's where the arguments, and the package variables that the reading takes, are together of bulk at most 1048576: NARROWER than '..Said'. Prove '..Said' where nothing that the law and all that it calls make is longer than what came in: it says more and counts as full. Else prove '..UptoSaid'. A law counts once. -/
mutual
def uptoBulk {H : Type} : DataW H → Nat
  | .lit (.string bytes) => bytes.length + 1
  | .lit _ => 1
  | .nil => 1
  | .ptr d => uptoBulk d + 1
  | .slice elems spare => uptoBulkAll elems + uptoBulkAll spare + 1
  | .agg parts => uptoBulkAll parts + 1
  | .iface _ d => uptoBulk d + 1
  | .map entries => uptoBulkEntries entries + 1
  | .held _ => 1
def uptoBulkAll {H : Type} : List (DataW H) → Nat
  | [] => 0
  | d :: r => uptoBulk d + uptoBulkAll r
def uptoBulkEntries {H : Type} : List (Lit × DataW H) → Nat
  | [] => 0
  | x :: r => uptoBulkEntry x + uptoBulkEntries r
def uptoBulkEntry {H : Type} : Lit × DataW H → Nat
  | (.string bytes, d) => bytes.length + uptoBulk d + 1
  | (_, d) => uptoBulk d + 1
 end
def uptoSmall : (H : Type) → List (DataW H) → Bool := fun _ ds => decide (uptoBulkAll ds ≤ 1048576)
def OpenSpec.upto (s : _root_.Go.ChangeSpec) : _root_.Go.OpenSpec := { _root_.Go.OpenSpec.ofChange s with cond := some uptoSmall }

/-- 'breviarylaw09.ControlTells', WHERE WHAT IT READS IS OF BULK AT MOST 1048576: true; the input reads as it did. -/
def controlTellsUptoRow : OpenClaim := { program := "ytapoagpkjngjpaa", sum := "741dd4b341883ea3d1f3547fa04e5cfbf6569b7618a8dcd87fa2e301243955e3", func := "breviary/breviarylaw09.ControlTells", spec := "controlTells", unfollowed := true, recurses := true, apart := false, narrowed := true }
def ControlTellsUptoSaid : Prop := controlTellsUptoRow.holds Try.pinned (OpenSpec.upto controlTellsSpec)

/-- 'breviarylaw09.ControlCrash', WHERE WHAT IT READS IS OF BULK AT MOST 1048576: true; the input reads as it did. -/
def controlCrashUptoRow : OpenClaim := { program := "ytapoagpkjngjpaa", sum := "741dd4b341883ea3d1f3547fa04e5cfbf6569b7618a8dcd87fa2e301243955e3", func := "breviary/breviarylaw09.ControlCrash", spec := "controlCrash", unfollowed := true, recurses := true, apart := false, narrowed := true }
def ControlCrashUptoSaid : Prop := controlCrashUptoRow.holds Try.pinned (OpenSpec.upto controlCrashSpec)

/-- 'breviarylaw09.ControlTurns', WHERE WHAT IT READS IS OF BULK AT MOST 1048576: true; the input reads as it did. -/
def controlTurnsUptoRow : OpenClaim := { program := "ytapoagpkjngjpaa", sum := "741dd4b341883ea3d1f3547fa04e5cfbf6569b7618a8dcd87fa2e301243955e3", func := "breviary/breviarylaw09.ControlTurns", spec := "controlTurns", unfollowed := true, recurses := true, apart := false, narrowed := true }
def ControlTurnsUptoSaid : Prop := controlTurnsUptoRow.holds Try.pinned (OpenSpec.upto controlTurnsSpec)

end Rows
end Go.Proofs.Ytapoagpkjngjpaa
