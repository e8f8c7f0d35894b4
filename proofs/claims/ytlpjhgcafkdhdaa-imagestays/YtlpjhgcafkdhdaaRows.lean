/-
  No cell of these rows narrows 'for every input' (looked for: loops, veiled, ifaces, maps, wideKeys, modest, calm, conditions, laid).
  DERIVED. THE GIVEN ROWS OF THIS SEAT. 4 by the template 'for every input the law returns true; each argument reads behind the call as it read before'; 0 by the template 'total and deterministic' (their statements: YtlpjhgcafkdhdaaTotals.lean).
  GIVEN WITH THE SEED: the statements are not yours to turn. If you find one false, say at which input.
  Laid BY PROGRAM, IN A SANDBOX (cutbox-rows.mjs): the forced cells as the released guide's own fill.sh prints them over the translation 54ee9542f92e58c6… (all of the seat's roots in one cut). By AI agents, Wed Nov 11 2026. No macro, syntax, notation, axiom, sorry.
-/
import Derived.Test.YtlpjhgcafkdhdaaChecked
import GoSem.Claim
import GoSem.ClaimJoined
import GoSem.ClaimMapViews
import Derived.JoinedTies
import Derived.KernelRfl
namespace Go.Proofs.Ytlpjhgcafkdhdaa
/- THE CELL 'sum', in the pinned program and in every row, IS THE sha256 OF THE DUMP (.gsa) THAT YtlpjhgcafkdhdaaProg.lean LOADS. Nothing in Lean hashes anything: it is a label: what it is worth is what the hold of that sum in a sandbox is worth. -/
noncomputable def Try.pinned : Pinned := { name := "ytlpjhgcafkdhdaa", sum := "54ee9542f92e58c65c0fec58e3bb8d648fae4a9f98269ffafe410fb11e2f13d0", checked := Try.checked }
namespace Rows
def none {H : Type} : Left H := { results := [], args := [] }

/-- 'breviarylaw10.ImagePlays': WHATEVER THE INPUT: true; the input reads as it did. -/
def imagePlaysSpec : ChangeSpec := { name := "imagePlays", fn := fun _ => fun
  | [d1, d2] => { results := [.lit (.bool true)], args := [d1, d2] }
  | _ => none }
def imagePlaysRow : OpenClaim := { program := "ytlpjhgcafkdhdaa", sum := "54ee9542f92e58c65c0fec58e3bb8d648fae4a9f98269ffafe410fb11e2f13d0", func := "breviary/breviarylaw10.ImagePlays", spec := "imagePlays", unfollowed := true, recurses := true, apart := false }
def ImagePlaysSaid : Prop := imagePlaysRow.holds Try.pinned (OpenSpec.ofChange imagePlaysSpec)

/-- ITS FALSE NEIGHBOUR: 'it returns false'. Refute it at one input. -/
def imagePlaysWrong : ChangeSpec := { name := "imagePlays", fn := fun _ => fun
  | [d1, d2] => { results := [.lit (.bool false)], args := [d1, d2] }
  | _ => none }
def ImagePlaysWrongFalsely : Prop := imagePlaysRow.holds Try.pinned (OpenSpec.ofChange imagePlaysWrong)

/-- 'breviarylaw10.ImageFrom': WHATEVER THE INPUT: true; the input reads as it did. -/
def imageFromSpec : ChangeSpec := { name := "imageFrom", fn := fun _ => fun
  | [d] => { results := [.lit (.bool true)], args := [d] }
  | _ => none }
def imageFromRow : OpenClaim := { program := "ytlpjhgcafkdhdaa", sum := "54ee9542f92e58c65c0fec58e3bb8d648fae4a9f98269ffafe410fb11e2f13d0", func := "breviary/breviarylaw10.ImageFrom", spec := "imageFrom", unfollowed := true, recurses := true, apart := false }
def ImageFromSaid : Prop := imageFromRow.holds Try.pinned (OpenSpec.ofChange imageFromSpec)

/-- ITS FALSE NEIGHBOUR: 'it returns false'. Refute it at one input. -/
def imageFromWrong : ChangeSpec := { name := "imageFrom", fn := fun _ => fun
  | [d] => { results := [.lit (.bool false)], args := [d] }
  | _ => none }
def ImageFromWrongFalsely : Prop := imageFromRow.holds Try.pinned (OpenSpec.ofChange imageFromWrong)

/-- 'breviarylaw10.ImageStays': WHATEVER THE INPUT: true; the input reads as it did. -/
def imageStaysSpec : ChangeSpec := { name := "imageStays", fn := fun _ => fun
  | [d1, d2] => { results := [.lit (.bool true)], args := [d1, d2] }
  | _ => none }
def imageStaysRow : OpenClaim := { program := "ytlpjhgcafkdhdaa", sum := "54ee9542f92e58c65c0fec58e3bb8d648fae4a9f98269ffafe410fb11e2f13d0", func := "breviary/breviarylaw10.ImageStays", spec := "imageStays", unfollowed := true, recurses := true, apart := false }
def ImageStaysSaid : Prop := imageStaysRow.holds Try.pinned (OpenSpec.ofChange imageStaysSpec)

/-- ITS FALSE NEIGHBOUR: 'it returns false'. Refute it at one input. -/
def imageStaysWrong : ChangeSpec := { name := "imageStays", fn := fun _ => fun
  | [d1, d2] => { results := [.lit (.bool false)], args := [d1, d2] }
  | _ => none }
def ImageStaysWrongFalsely : Prop := imageStaysRow.holds Try.pinned (OpenSpec.ofChange imageStaysWrong)

/-- 'breviarylaw10.ImageJoins': WHATEVER THE INPUT: true; the input reads as it did. -/
def imageJoinsSpec : ChangeSpec := { name := "imageJoins", fn := fun _ => fun
  | [d1, d2] => { results := [.lit (.bool true)], args := [d1, d2] }
  | _ => none }
def imageJoinsRow : OpenClaim := { program := "ytlpjhgcafkdhdaa", sum := "54ee9542f92e58c65c0fec58e3bb8d648fae4a9f98269ffafe410fb11e2f13d0", func := "breviary/breviarylaw10.ImageJoins", spec := "imageJoins", unfollowed := true, recurses := true, apart := false }
def ImageJoinsSaid : Prop := imageJoinsRow.holds Try.pinned (OpenSpec.ofChange imageJoinsSpec)

/-- ITS FALSE NEIGHBOUR: 'it returns false'. Refute it at one input. -/
def imageJoinsWrong : ChangeSpec := { name := "imageJoins", fn := fun _ => fun
  | [d1, d2] => { results := [.lit (.bool false)], args := [d1, d2] }
  | _ => none }
def ImageJoinsWrongFalsely : Prop := imageJoinsRow.holds Try.pinned (OpenSpec.ofChange imageJoinsWrong)

/- THE SECOND FORM. 'bulk': how many values and letters a reading holds, each counted each time it is reached (what is shared counts as often as it is met; a slice's spare places count too). A statement '..UptoSaid' is the law's where the arguments, and the package variables that the reading takes, are together of bulk at most 1048576: NARROWER than '..Said'. Prove '..Said' where nothing that the law and all that it calls make is longer than what came in: it says more and counts as full. Else prove '..UptoSaid'. A law counts once. -/
mutual
def uptoBulk {H : Type} : DataW H → Nat
  | .lit (.string bytes) => bytes.length + 1
  | .lit _ => 1
  | .nil => 1
  | .ptr d => uptoBulk d + 1
  | .slice elems spare => uptoBulkAll elems + uptoBulkAll spare + 1
  | .agg parts => uptoBulkAll parts + 1
  | .iface _ d => uptoBulk d + 1
  | .map entries => uptoBulkEntries entries + 1
  | .held _ => 1
def uptoBulkAll {H : Type} : List (DataW H) → Nat
  | [] => 0
  | d :: r => uptoBulk d + uptoBulkAll r
def uptoBulkEntries {H : Type} : List (Lit × DataW H) → Nat
  | [] => 0
  | x :: r => uptoBulkEntry x + uptoBulkEntries r
def uptoBulkEntry {H : Type} : Lit × DataW H → Nat
  | (.string bytes, d) => bytes.length + uptoBulk d + 1
  | (_, d) => uptoBulk d + 1
 end
def uptoSmall : (H : Type) → List (DataW H) → Bool := fun _ ds => decide (uptoBulkAll ds ≤ 1048576)
def OpenSpec.upto (s : _root_.Go.ChangeSpec) : _root_.Go.OpenSpec := { _root_.Go.OpenSpec.ofChange s with cond := some uptoSmall }

/-- 'breviarylaw10.ImagePlays', WHERE WHAT IT READS IS OF BULK AT MOST 1048576: true; the input reads as it did. -/
def imagePlaysUptoRow : OpenClaim := { program := "ytlpjhgcafkdhdaa", sum := "54ee9542f92e58c65c0fec58e3bb8d648fae4a9f98269ffafe410fb11e2f13d0", func := "breviary/breviarylaw10.ImagePlays", spec := "imagePlays", unfollowed := true, recurses := true, apart := false, narrowed := true }
def ImagePlaysUptoSaid : Prop := imagePlaysUptoRow.holds Try.pinned (OpenSpec.upto imagePlaysSpec)

/-- 'breviarylaw10.ImageFrom', WHERE WHAT IT READS IS OF BULK AT MOST 1048576: true; the input reads as it did. -/
def imageFromUptoRow : OpenClaim := { program := "ytlpjhgcafkdhdaa", sum := "54ee9542f92e58c65c0fec58e3bb8d648fae4a9f98269ffafe410fb11e2f13d0", func := "breviary/breviarylaw10.ImageFrom", spec := "imageFrom", unfollowed := true, recurses := true, apart := false, narrowed := true }
def ImageFromUptoSaid : Prop := imageFromUptoRow.holds Try.pinned (OpenSpec.upto imageFromSpec)

/-- 'breviarylaw10.ImageStays', WHERE WHAT IT READS IS OF BULK AT MOST 1048576: true; the input reads as it did. -/
def imageStaysUptoRow : OpenClaim := { program := "ytlpjhgcafkdhdaa", sum := "54ee9542f92e58c65c0fec58e3bb8d648fae4a9f98269ffafe410fb11e2f13d0", func := "breviary/breviarylaw10.ImageStays", spec := "imageStays", unfollowed := true, recurses := true, apart := false, narrowed := true }
def ImageStaysUptoSaid : Prop := imageStaysUptoRow.holds Try.pinned (OpenSpec.upto imageStaysSpec)

/-- 'breviarylaw10.ImageJoins', WHERE WHAT IT READS IS OF BULK AT MOST 1048576: true; the input reads as it did. -/
def imageJoinsUptoRow : OpenClaim := { program := "ytlpjhgcafkdhdaa", sum := "54ee9542f92e58c65c0fec58e3bb8d648fae4a9f98269ffafe410fb11e2f13d0", func := "breviary/breviarylaw10.ImageJoins", spec := "imageJoins", unfollowed := true, recurses := true, apart := false, narrowed := true }
def ImageJoinsUptoSaid : Prop := imageJoinsUptoRow.holds Try.pinned (OpenSpec.upto imageJoinsSpec)

end Rows
end Go.Proofs.Ytlpjhgcafkdhdaa
