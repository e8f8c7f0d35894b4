/-
  Sectors among a law's arguments: how they read.
-/
import Derived.Test.YtjepiaacaemkhaaEnds
import Derived.ProofKit
import Derived.OpenShut
import Derived.ShutString
import Derived.ChangeOld
namespace Go.Proofs.Ytjepiaacaemkhaa
open Go.ChangeShapes Go.WideShapes Go.ChangeAt Go.RowKit
set_option linter.unusedSimpArgs false
set_option linter.unusedVariables false

theorem Try.own : ownKnob Try.prog.godebug = none := by kernel_rfl
theorem Try.laidOut : laidOutB Try.prog = true := by kernel_rfl
theorem Try.cells54 : Try.prog.cellsOf 54 = 64 := by kernel_rfl
theorem Try.cells5 : Try.prog.cellsOf 5 = 1 := by kernel_rfl

theorem sector_bytes {H : Type} {enc : TypeId × Value → H} {w : World} {base : Nat} {spare : Nat → Bool} {held : Bool} {fuel : Nat} {cs : List Value} {x : DataW H × List MemPlace}
    (hl : cs.length = 64) (hf : DataW.trod enc Try.prog w base spare held fuel 54 cs = some x) : ∀ v ∈ cs, isByte v := by
  obtain ⟨xs, m, _, _, _, hxl, hel⟩ := DataW.trod_array Try.underlying54 hf
  intro v hv
  obtain ⟨i, hi, rfl⟩ := List.mem_iff_getElem.1 hv
  have h1 := hel i (by omega)
  rw [Try.cells5] at h1
  obtain ⟨y, hy⟩ : ∃ y, xs[i]? = some y := ⟨_, List.getElem?_eq_getElem (by omega)⟩
  rw [hy] at h1
  obtain ⟨n, e0, _, wn⟩ := DataW.trod_int Try.underlying5 h1
  have hd : (cs.drop (i * 1)).take 1 = [cs[i]] := by
    rw [Nat.mul_one, List.drop_eq_getElem_cons hi]; rfl
  rw [hd] at e0
  have e1 : cs[i] = .int .u8 n := by simpa using e0
  have hb := bounds_u8 wn
  exact ⟨n, e1, by omega, by omega⟩

theorem open_sector {H : Type} {enc : TypeId × Value → H} {w : World} {base : Nat} {spare : Nat → Bool} {held : Bool} {r : Reach} {b0 : Nat} {v : Value} {d : DataW H} {p : List MemPlace}
    (hv : Value.okWide Try.prog w r b0 54 v) (h : DataW.Trod enc Try.prog w base spare held 54 v d p) : ∃ L : List Value, v = .agg L.toArray ∧ L.length = 64 ∧ ∀ x ∈ L, isByte x := by
  unfold Value.okWide at hv
  rw [Try.underlying54] at hv
  obtain ⟨cs, rfl, hsz, _⟩ := hv
  have hl : cs.toList.length = 64 := by simpa [Try.cells54] using hsz
  obtain ⟨fuel, hf⟩ := h
  exact ⟨cs.toList, by simp, hl, sector_bytes hl hf⟩

end Go.Proofs.Ytjepiaacaemkhaa
