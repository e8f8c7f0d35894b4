/-
  The types of the translation that the walks of package dev meet, as closed facts.
-/
import Derived.Test.YtapoagpkjngjpaaRows
import Derived.Test.YtapoagpkjngjpaaBlk
namespace Go.Proofs.Ytapoagpkjngjpaa.D
open Go.RowKit
set_option linter.unusedSimpArgs false
set_option linter.unusedVariables false
set_option maxRecDepth 100000

theorem Try.info5 : (Try.prog.info? 5).map (fun i => (i.zero, i.size, i.bytes)) = some (some (.int .u8 0), 1, 1) := by kernel_rfl
theorem Try.info99 : (Try.prog.info? 99).map (fun i => (i.zero, i.size, i.bytes)) = some (some (.agg (List.replicate 64 (.int .u8 0)).toArray), 64, 64) := by kernel_rfl
theorem Try.info101 : (Try.prog.info? 101).map (fun i => (i.zero, i.size, i.bytes)) = some (some (.agg (.int .i64 0 :: List.replicate 64 (.int .u8 0)).toArray), 65, 72) := by kernel_rfl
theorem Try.info98 : (Try.prog.info? 98).map (fun i => (i.zero, i.size, i.bytes)) = some (some (.agg (List.replicate 64 (.int .u8 0)).toArray), 64, 64) := by kernel_rfl
theorem Try.agg99 : aggSize Try.prog 99 64 := by
  obtain ⟨i0, hi, _, hs, _⟩ := info_parts Try.info99
  exact ⟨⟨i0, hi, hs⟩, _, Try.underlying99, .inl ⟨_, _, rfl⟩⟩
theorem Try.agg98 : aggSize Try.prog 98 64 := by
  obtain ⟨i0, hi, _, hs, _⟩ := info_parts Try.info98
  exact ⟨⟨i0, hi, hs⟩, _, Try.underlying98, .inl ⟨_, _, rfl⟩⟩
theorem Try.agg101 : aggSize Try.prog 101 65 := by
  obtain ⟨i0, hi, _, hs, _⟩ := info_parts Try.info101
  exact ⟨⟨i0, hi, hs⟩, _, Try.underlying101, .inr ⟨_, rfl⟩⟩
theorem Try.mixed : Try.prog.follows .mixedOrders = true := by kernel_rfl

end Go.Proofs.Ytapoagpkjngjpaa.D
