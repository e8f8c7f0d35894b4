/-
  The types of the translation that the walks of package dev meet, as closed facts.
-/
import Derived.Test.YtakpkibjpjcgbaaRows
import Derived.Test.YtakpkibjpjcgbaaBlk
namespace Go.Proofs.Ytakpkibjpjcgbaa.D
open Go.RowKit
set_option linter.unusedSimpArgs false
set_option linter.unusedVariables false
set_option maxRecDepth 100000

theorem Try.info5 : (Try.prog.info? 5).map (fun i => (i.zero, i.size, i.bytes)) = some (some (.int .u8 0), 1, 1) := by kernel_rfl
theorem Try.info129 : (Try.prog.info? 129).map (fun i => (i.zero, i.size, i.bytes)) = some (some (.agg (List.replicate 64 (.int .u8 0)).toArray), 64, 64) := by kernel_rfl
theorem Try.info131 : (Try.prog.info? 131).map (fun i => (i.zero, i.size, i.bytes)) = some (some (.agg (.int .i64 0 :: List.replicate 64 (.int .u8 0)).toArray), 65, 72) := by kernel_rfl
theorem Try.info78 : (Try.prog.info? 78).map (fun i => (i.zero, i.size, i.bytes)) = some (some (.agg (List.replicate 64 (.int .u8 0)).toArray), 64, 64) := by kernel_rfl
theorem Try.agg129 : aggSize Try.prog 129 64 := by
  obtain ⟨i0, hi, _, hs, _⟩ := info_parts Try.info129
  exact ⟨⟨i0, hi, hs⟩, _, Try.underlying129, .inl ⟨_, _, rfl⟩⟩
theorem Try.agg78 : aggSize Try.prog 78 64 := by
  obtain ⟨i0, hi, _, hs, _⟩ := info_parts Try.info78
  exact ⟨⟨i0, hi, hs⟩, _, Try.underlying78, .inl ⟨_, _, rfl⟩⟩
theorem Try.agg131 : aggSize Try.prog 131 65 := by
  obtain ⟨i0, hi, _, hs, _⟩ := info_parts Try.info131
  exact ⟨⟨i0, hi, hs⟩, _, Try.underlying131, .inr ⟨_, rfl⟩⟩
theorem Try.mixed : Try.prog.follows .mixedOrders = true := by kernel_rfl

end Go.Proofs.Ytakpkibjpjcgbaa.D
