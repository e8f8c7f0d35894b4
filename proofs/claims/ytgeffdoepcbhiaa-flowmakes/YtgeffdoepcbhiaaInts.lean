/-
  A slice of ints among a law's arguments: how it reads.
-/
import Derived.Test.YtgeffdoepcbhiaaParts0
import Derived.ProofKit
import Derived.OpenShut
import Derived.ShutString
import Derived.ChangeOld
import Derived.Deep.Slices
import Derived.SliceStrings
import Derived.SizedLaws
namespace Go.Proofs.Ytgeffdoepcbhiaa
open Go.ChangeShapes Go.WideShapes Go.ChangeAt Go.RowKit
set_option linter.unusedSimpArgs false
set_option linter.unusedVariables false

theorem Try.ownK : ownKnob Try.prog.godebug = none := by kernel_rfl
theorem Try.laidOutK : laidOutB Try.prog = true := by kernel_rfl
theorem Try.cells3 : Try.prog.cellsOf 3 = 1 := by kernel_rfl
theorem Try.bytes3 : Try.prog.bytesOf 3 = 8 := by kernel_rfl

theorem lift_ints : ∀ zs : List Int, (∀ n ∈ zs, (Lit.int .i64 n).wf = true) → ∃ xs : List I64, xs.map DI = zs.map (Value.int .i64 ·)
  | [], _ => ⟨[], rfl⟩
  | z :: zs, h => by
    obtain ⟨xs, hx⟩ := lift_ints zs (fun n hn => h n (by simp [hn]))
    exact ⟨⟨z, bounds_i64 (h z (by simp))⟩ :: xs, by rw [List.map_cons, List.map_cons, hx]⟩
theorem open_intsL {H : Type} {enc : TypeId × Value → H} {w : World} {base : Nat} {spare : Nat → Bool} {held : Bool} {ao : Option Addr} {len cap : Nat} {d : DataW H} {p : List MemPlace}
    (h : DataW.Trod enc Try.prog w base spare held 22 (.slice ao len cap) d p) : ∃ xs : List I64, xs.length = len ∧ SrcV w (.slice ao len cap) (xs.map DI) ∧ (len = 0 ∨ ∃ es sp, d = .slice es sp ∧ es.length = len) := by
  obtain ⟨fuel, hf⟩ := h
  rcases open_ints Try.underlying22 Try.underlying3 Try.cells3 hf with ⟨hcs, _⟩ | ⟨a, len', cap', zs, hcs, _, hl, hcm, hzs, hx, hcell, hwf⟩
  · simp [Value.cells] at hcs
    obtain ⟨rfl, rfl, rfl⟩ := hcs
    exact ⟨[], rfl, ⟨none, 0, rfl, by simp, fun h => by simp at h, fun _ => rfl⟩, .inl rfl⟩
  · simp [Value.cells] at hcs
    obtain ⟨rfl, rfl, rfl⟩ := hcs
    have hlm : len ≤ zs.length := by rw [hzs]; split <;> omega
    obtain ⟨xs, hxs⟩ := lift_ints (zs.take len) (fun n hn => hwf n (List.mem_of_mem_take hn))
    have hxl : xs.length = len := by
      have := congrArg List.length hxs
      simp at this
      omega
    refine ⟨xs, hxl, ⟨some a, cap, by rw [List.length_map, hxl], by rw [List.length_map, hxl]; exact hl, fun h0 => ?_, fun h => by cases h⟩, .inr ⟨_, _, congrArg Prod.fst hx, by simp [lits]; omega⟩⟩
    rw [List.length_map, hxl] at h0
    have h1 := hcell 0 (by omega)
    obtain ⟨sb, so, sp⟩ := a
    have hsp : sp = none := by
      simp [Addr.add] at h1
      simpa using World.cell?_spot h1
    subst hsp
    refine ⟨sb, so, rfl, ?_⟩
    intro j u hj
    rw [hxs, List.getElem?_map] at hj
    obtain ⟨s, hs, rfl⟩ := Option.map_eq_some_iff.1 hj
    rw [List.getElem?_take] at hs
    split at hs
    · have hj2 := (List.getElem?_eq_some_iff.1 hs).1
      have h2 := hcell j hj2
      rw [addr_add] at h2
      rw [h2, List.getD_eq_getElem?_getD, hs]
      rfl
    · cases hs
end Go.Proofs.Ytgeffdoepcbhiaa
