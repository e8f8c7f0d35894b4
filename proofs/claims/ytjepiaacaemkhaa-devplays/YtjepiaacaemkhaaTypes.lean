/-
  The types of the translation that the walks of package dev meet, as closed facts.
-/
import Derived.Test.YtjepiaacaemkhaaRows
import Derived.Test.YtjepiaacaemkhaaBlk
namespace Go.Proofs.Ytjepiaacaemkhaa
open Go.RowKit
set_option linter.unusedSimpArgs false
set_option linter.unusedVariables false

theorem Try.info5 : (Try.prog.info? 5).map (fun i => (i.zero, i.size, i.bytes)) = some (some (.int .u8 0), 1, 1) := by kernel_rfl
theorem Try.info70 : (Try.prog.info? 70).map (fun i => (i.zero, i.size, i.bytes)) = some (some (.agg (List.replicate 64 (.int .u8 0)).toArray), 64, 64) := by kernel_rfl
theorem Try.info72 : (Try.prog.info? 72).map (fun i => (i.zero, i.size, i.bytes)) = some (some (.agg (.int .i64 0 :: List.replicate 64 (.int .u8 0)).toArray), 65, 72) := by kernel_rfl
theorem Try.info54 : (Try.prog.info? 54).map (fun i => (i.zero, i.size, i.bytes)) = some (some (.agg (List.replicate 64 (.int .u8 0)).toArray), 64, 64) := by kernel_rfl
theorem Try.agg70 : aggSize Try.prog 70 64 := by
  obtain ⟨i0, hi, _, hs, _⟩ := info_parts Try.info70
  exact ⟨⟨i0, hi, hs⟩, _, Try.underlying70, .inl ⟨_, _, rfl⟩⟩
theorem Try.agg54 : aggSize Try.prog 54 64 := by
  obtain ⟨i0, hi, _, hs, _⟩ := info_parts Try.info54
  exact ⟨⟨i0, hi, hs⟩, _, Try.underlying54, .inl ⟨_, _, rfl⟩⟩
theorem Try.agg72 : aggSize Try.prog 72 65 := by
  obtain ⟨i0, hi, _, hs, _⟩ := info_parts Try.info72
  exact ⟨⟨i0, hi, hs⟩, _, Try.underlying72, .inr ⟨_, rfl⟩⟩
theorem Try.mixed : Try.prog.follows .mixedOrders = true := by kernel_rfl

end Go.Proofs.Ytjepiaacaemkhaa
