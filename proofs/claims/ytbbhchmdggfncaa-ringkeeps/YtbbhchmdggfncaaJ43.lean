/-
  Bytes and bools among a law's arguments: how they read.
-/
import Derived.Test.YtbbhchmdggfncaaJ35
import Derived.ProofKit
import Derived.OpenShut
import Derived.ShutString
import Derived.ChangeOld
import Derived.Deep.Slices
namespace Go.Proofs.Ytbbhchmdggfncaa
open Go.ChangeShapes Go.WideShapes Go.ChangeAt Go.RowKit
set_option linter.unusedSimpArgs false
set_option linter.unusedVariables false
set_option maxRecDepth 100000

theorem Try.own : ownKnob Try.prog.godebug = none := by kernel_rfl
theorem Try.laidOut : laidOutB Try.prog = true := by kernel_rfl
theorem Try.cells5 : Try.prog.cellsOf 5 = 1 := by kernel_rfl
theorem Try.cells4 : Try.prog.cellsOf 4 = 1 := by kernel_rfl

theorem open_bytes {H : Type} {enc : TypeId × Value → H} {w : World} {base : Nat} {spare : Nat → Bool} {held : Bool} {ao : Option Addr} {len cap : Nat} {d : DataW H} {p : List MemPlace}
    (h : DataW.Trod enc Try.prog w base spare held 22 (.slice ao len cap) d p) : ∃ B : List Nat, B.length = len ∧ len ≤ 9223372036854775807 ∧ Src w (.slice ao len cap) B := by
  obtain ⟨fuel, hf⟩ := h
  rcases Go.Deep.open_slice1 Try.underlying22 Try.cells5 hf with ⟨hcs, _⟩ | ⟨a, len', cap', m, n, V, D, Pl, hcs, _, hl, hcm, hm, hxe, hx⟩
  · simp [Value.cells] at hcs
    obtain ⟨rfl, rfl, rfl⟩ := hcs
    exact ⟨[], rfl, Nat.zero_le _, ⟨none, 0, rfl, Nat.le_refl _, by simp, fun h => absurd h (by simp), fun _ => rfl⟩⟩
  · simp [Value.cells] at hcs
    obtain ⟨rfl, rfl, rfl⟩ := hcs
    have hlm : len ≤ m := by rw [hm]; split <;> omega
    have each : ∀ i, i < len → ∃ q : Nat, V i = .int .u8 (q : Int) ∧ q < 256 := by
      intro i hi
      obtain ⟨q, e0, _, wq⟩ := DataW.trod_int Try.underlying5 (hx i (by omega)).2
      have hb := bounds_u8 wq
      simp at e0
      exact ⟨q.toNat, by rw [e0]; congr 1; omega, by omega⟩
    have hnum : ∀ i, i < len → V i = .int .u8 ((match V i with | .int _ n => n.toNat | _ => 0 : Nat) : Int) ∧ (match V i with | .int _ n => n.toNat | _ => 0 : Nat) < 256 := by
      intro i hi
      obtain ⟨q, e, hq⟩ := each i hi
      rw [e]
      exact ⟨by simp, by simpa using hq⟩
    refine ⟨(List.range len).map (fun i => match V i with | .int _ n => n.toNat | _ => 0), by simp, by unfold maxLen at hcm; omega, ⟨some a, cap, by simp, by simpa using hl, ?_, ?_, fun h => by cases h⟩⟩
    · intro u hu
      simp only [List.mem_map, List.mem_range] at hu
      obtain ⟨i, hi, rfl⟩ := hu
      exact (hnum i hi).2
    · intro h0
      simp at h0
      have h1 := (hx 0 (by omega)).1
      obtain ⟨sb, so, sp⟩ := a
      have hsp : sp = none := by
        simp [Addr.add] at h1
        simpa using World.cell?_spot h1
      subst hsp
      refine ⟨sb, so, rfl, ?_⟩
      intro j u hj
      simp only [BV, List.map_map] at hj
      obtain ⟨hj1, hj2⟩ := List.getElem?_eq_some_iff.1 hj
      simp only [List.length_map, List.length_range] at hj1
      simp only [List.getElem_map, List.getElem_range, Function.comp] at hj2
      have h2 := (hx j (by omega)).1
      rw [addr_add] at h2
      rw [h2, (hnum j hj1).1, hj2]
theorem open_bools {H : Type} {enc : TypeId × Value → H} {w : World} {base : Nat} {spare : Nat → Bool} {held : Bool} {ao : Option Addr} {len cap : Nat} {d : DataW H} {p : List MemPlace}
    (h : DataW.Trod enc Try.prog w base spare held 23 (.slice ao len cap) d p) : ∃ ks : List Bool, D.keepIs w (.slice ao len cap) ks (fun _ => False) := by
  obtain ⟨fuel, hf⟩ := h
  rcases Go.Deep.open_slice1 Try.underlying23 Try.cells4 hf with ⟨hcs, _⟩ | ⟨a, len', cap', m, n, V, D, Pl, hcs, _, hl, hcm, hm, hxe, hx⟩
  · simp [Value.cells] at hcs
    obtain ⟨rfl, rfl, rfl⟩ := hcs
    exact ⟨[], none, 0, rfl, by decide, fun i hi => by simp at hi⟩
  · simp [Value.cells] at hcs
    obtain ⟨rfl, rfl, rfl⟩ := hcs
    have hlm : len ≤ m := by rw [hm]; split <;> omega
    have each : ∀ i, i < len → V i = .bool (match V i with | .bool q => q | _ => false) := by
      intro i hi
      obtain ⟨q, e0, _⟩ := DataW.trod_bool Try.underlying4 (hx i (by omega)).2
      simp at e0
      rw [e0]
    refine ⟨(List.range len).map (fun i => match V i with | .bool q => q | _ => false), some a, cap, by simp, by simp; unfold maxLen at hcm; omega, fun i hi => ?_⟩
    simp only [List.length_map, List.length_range] at hi
    have h1 := (hx i (by omega)).1
    have h9 := (hx 0 (by omega)).1
    obtain ⟨sb, so, sp⟩ := a
    have hsp : sp = none := by
      simp [Addr.add] at h9
      simpa using World.cell?_spot h9
    subst hsp
    refine ⟨sb, so, rfl, ?_, fun h => h⟩
    rw [addr_add] at h1
    rw [h1, each i hi]
    simp [hi]
end Go.Proofs.Ytbbhchmdggfncaa
