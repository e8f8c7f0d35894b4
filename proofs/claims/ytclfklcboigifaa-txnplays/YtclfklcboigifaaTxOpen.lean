/-
  The operations of the statements among their arguments.
-/
import Derived.Test.YtclfklcboigifaaTxLaw
import Derived.Test.YtclfklcboigifaaIOpen
namespace Go.Proofs.Ytclfklcboigifaa
open Go.ChangeShapes Go.WideShapes Go.ChangeAt Go.RowKit
set_option linter.unusedSimpArgs false
set_option linter.unusedVariables false
set_option maxRecDepth 100000

theorem Try.cellsO42 : Try.prog.cellsOf 42 = 4 := by kernel_rfl
theorem Try.fieldsOpT : ∃ fs, Try.prog.underlying 42 = some (.struct fs) ∧ (fs.toList.map fun f => (f.type, f.offset)) = [(3, 0), (3, 1), (3, 2), (40, 3)] := ⟨_, Try.underlying42, by kernel_rfl⟩
theorem four_of : ∀ {cs : List Value}, cs.length = 4 → ∃ v0 v1 v2 v3, cs = [v0, v1, v2, v3]
  | [v0, v1, v2, v3], _ => ⟨v0, v1, v2, v3, rfl⟩
section
variable {H : Type} {enc : TypeId × Value → H} {w : World} {base : Nat} {spare : Nat → Bool} {held : Bool} {fuel : Nat} {v : Value} {x : DataW H × List MemPlace}
theorem read_opT {cs : List Value} (hl : cs.length = 4) (h : DataW.trod enc Try.prog w base spare held fuel 42 cs = some x) : ∃ y : OpT, cs = OpT.cells y ∧ OpIsT w y := by
  obtain ⟨fs, hu, hfs⟩ := Try.fieldsOpT
  obtain ⟨xs, m, _, _, _, hxl, hel⟩ := DataW.trod_struct hu h
  have hsz : fs.size = 4 := by have := congrArg List.length hfs; simpa using this
  have get : ∀ (i : Nat) (t o : Nat), (fs.toList.map fun f => (f.type, f.offset))[i]? = some (t, o) → Try.prog.cellsOf t = 1 → o < 4 → ∃ y, DataW.trod enc Try.prog w base spare held m t [cs.getD o (.int .i64 0)] = some y := by
    intro i t o hi hc ho
    simp only [List.getElem?_map, Option.map_eq_some_iff] at hi
    obtain ⟨f, hf, hfe⟩ := hi
    have hf' : fs[i]? = some f := by simpa using hf
    have h1 := hel i f hf'
    have ht : f.type = t := congrArg Prod.fst hfe
    have hof : f.offset = o := congrArg Prod.snd hfe
    rw [ht, hof, hc] at h1
    have hi5 : i < fs.size := (Array.getElem?_eq_some_iff.1 hf').1
    obtain ⟨y, hy⟩ : ∃ y, xs[i]? = some y := ⟨_, List.getElem?_eq_getElem (by omega)⟩
    rw [hy] at h1
    have hd : (cs.drop o).take 1 = [cs.getD o (.int .i64 0)] := by
      rw [List.drop_eq_getElem_cons (by omega), List.getD_eq_getElem?_getD, List.getElem?_eq_getElem (by omega)]
      rfl
    rw [hd] at h1
    exact ⟨y, h1⟩
  obtain ⟨v0, v1, v2, v3, rfl⟩ := four_of hl
  obtain ⟨y0, g0⟩ := get 0 3 0 (by rw [hfs]; rfl) Try.cells3 (by decide)
  obtain ⟨y1, g1⟩ := get 1 3 1 (by rw [hfs]; rfl) Try.cells3 (by decide)
  obtain ⟨y2, g2⟩ := get 2 3 2 (by rw [hfs]; rfl) Try.cells3 (by decide)
  obtain ⟨y3, g3⟩ := get 3 40 3 (by rw [hfs]; rfl) Try.cells40 (by decide)
  obtain ⟨kd, e0, _, w0⟩ := DataW.trod_int Try.underlying3 g0
  obtain ⟨a, e1, _, w1⟩ := DataW.trod_int Try.underlying3 g1
  obtain ⟨k, e2, _, w2⟩ := DataW.trod_int Try.underlying3 g2
  obtain ⟨B, _, hB, _⟩ := read_bytes g3
  simp at e0 e1 e2
  subst e0 e1 e2
  obtain ⟨s, hs⟩ := src_sl hB
  simp at hs
  subst hs
  exact ⟨⟨kd, a, k, s, B⟩, rfl, ⟨by simpa using hB, bounds_i64 w0, bounds_i64 w2⟩⟩
end
theorem open_opsT {H : Type} {enc : TypeId × Value → H} {w : World} {base : Nat} {spare : Nat → Bool} {held : Bool} {ao : Option Addr} {len cap : Nat} {d : DataW H} {p : List MemPlace}
    (h : DataW.Trod enc Try.prog w base spare held 22 (.slice ao len cap) d p) : OpsT w (.slice ao len cap) len := by
  obtain ⟨fuel, hf⟩ := h
  rcases Go.Deep.open_slice Try.underlying22 hf with ⟨hcs, _⟩ | ⟨a, len', cap', m, n, D, Pl, hcs, _, hl, hcm, hm, _, hx⟩
  · simp [Value.cells] at hcs
    obtain ⟨rfl, rfl, rfl⟩ := hcs
    exact ⟨none, 0, rfl, Nat.zero_le _, fun k hk => absurd hk (by omega)⟩
  · simp [Value.cells] at hcs
    obtain ⟨rfl, rfl, rfl⟩ := hcs
    refine ⟨_, cap, rfl, by unfold maxLen at hcm; omega, fun k hk => ?_⟩
    have hlm : len ≤ m := by rw [hm]; split <;> omega
    obtain ⟨cs', h1, h2⟩ := hx k (by omega)
    rw [Try.cellsO42] at h1
    obtain ⟨_, hlen, hcell⟩ := World.cells?_some h1
    obtain ⟨y, rfl, hop⟩ := read_opT hlen h2
    obtain ⟨cs0, g1, g2⟩ := hx 0 (by omega)
    rw [Try.cellsO42] at g1
    obtain ⟨_, glen, gcell⟩ := World.cells?_some g1
    have h0 := gcell 0 (by omega)
    rw [List.getElem?_eq_getElem (by omega)] at h0
    obtain ⟨sb, so, sp⟩ := a
    have hsp : sp = none := by
      simp [Addr.add] at h0
      simpa using World.cell?_spot h0
    subst hsp
    refine ⟨sb, so, y, rfl, ?_, hop⟩
    intro j u hj
    have h3 := hcell j (by
      rcases Nat.lt_or_ge j 4 with h | h
      · exact h
      · rw [List.getElem?_eq_none (by rw [hlen]; exact h)] at hj; cases hj)
    rw [addr_add, addr_add] at h3
    rw [h3, hj]
end Go.Proofs.Ytclfklcboigifaa
