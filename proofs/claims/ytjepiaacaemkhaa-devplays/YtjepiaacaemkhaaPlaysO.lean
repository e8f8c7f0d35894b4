/-
  A list of operations among a law's arguments: how it reads.
-/
import Derived.Test.YtjepiaacaemkhaaPlaysF
import Derived.Test.YtjepiaacaemkhaaOpen
import Derived.ProofKit
import Derived.OpenShut
import Derived.ShutString
import Derived.ChangeOld
import Derived.Deep.Slices
namespace Go.Proofs.Ytjepiaacaemkhaa
open Go.ChangeShapes Go.WideShapes Go.ChangeAt Go.RowKit
set_option linter.unusedSimpArgs false
set_option linter.unusedVariables false

theorem Try.cells44 : Try.prog.cellsOf 44 = 5 := by kernel_rfl
theorem Try.cells3 : Try.prog.cellsOf 3 = 1 := by kernel_rfl
theorem Try.cells4 : Try.prog.cellsOf 4 = 1 := by kernel_rfl
theorem Try.cells28 : Try.prog.cellsOf 28 = 1 := by kernel_rfl
theorem Try.cells42 : Try.prog.cellsOf 42 = 1 := by kernel_rfl
theorem Try.fields44 : ∃ fs, Try.prog.underlying 44 = some (.struct fs) ∧ (fs.toList.map fun f => (f.type, f.offset)) = [(3, 0), (3, 1), (3, 2), (28, 3), (42, 4)] := ⟨_, Try.underlying44, by kernel_rfl⟩

section
variable {H : Type} {enc : TypeId × Value → H} {w : World} {base : Nat} {spare : Nat → Bool} {held : Bool} {fuel : Nat} {v : Value} {x : DataW H × List MemPlace}
theorem spot_none {a : Addr} {u : Value} (h : w.cell? a = some u) : a.spot = none := World.cell?_spot h

theorem read_bytes (h : DataW.trod enc Try.prog w base spare held fuel 28 [v] = some x) : ∃ (bo : Option Addr) (bc : Nat) (B : List Value), v = .slice bo B.length bc ∧ B.length ≤ bc ∧ B.length ≤ 9223372036854775807 ∧ (∀ u ∈ B, isByte u) ∧ (0 < B.length → ∃ sb so, bo = some ⟨sb, so, none⟩ ∧ Cells w sb so B) := by
  rcases Go.Deep.open_slice1 Try.underlying28 Try.cells5 h with ⟨hcs, _⟩ | ⟨a, len, cap, m, n, V, D, Pl, hcs, _, hl, hcm, hm, _, hx⟩
  · simp at hcs
    subst hcs
    exact ⟨none, 0, [], rfl, Nat.le_refl _, Nat.zero_le _, by simp, fun h => absurd h (by simp)⟩
  · simp at hcs
    subst hcs
    have hlm : len ≤ m := by rw [hm]; split <;> omega
    refine ⟨some a, cap, (List.range len).map V, by simp, by simpa using hl, by simp; unfold maxLen at hcm; omega, ?_, ?_⟩
    · intro u hu
      simp at hu
      obtain ⟨i, hi, rfl⟩ := hu
      obtain ⟨q, e0, _, wq⟩ := DataW.trod_int Try.underlying5 (hx i (by omega)).2
      have hb := bounds_u8 wq
      simp at e0
      exact ⟨q, e0, by omega, by omega⟩
    · intro h0
      simp at h0
      have h1 := (hx 0 (by omega)).1
      obtain ⟨sb, so, sp⟩ := a
      have hsp : sp = none := by
        simp [Addr.add] at h1
        simpa using World.cell?_spot h1
      subst hsp
      refine ⟨sb, so, rfl, ?_⟩
      intro j u hj
      obtain ⟨hj1, hj2⟩ := List.getElem?_eq_some_iff.1 hj
      simp at hj1 hj2
      have h2 := (hx j (by omega)).1
      rw [addr_add] at h2
      rw [h2, hj2]

theorem read_bools (h : DataW.trod enc Try.prog w base spare held fuel 42 [v] = some x) : ∃ ks : List Bool, keepIs w v ks (fun k => w.heap.size ≤ k) := by
  rcases Go.Deep.open_slice1 Try.underlying42 Try.cells4 h with ⟨hcs, _⟩ | ⟨a, len, cap, m, n, V, D, Pl, hcs, _, hl, hcm, hm, _, hx⟩
  · simp at hcs
    subst hcs
    exact ⟨[], none, 0, rfl, Nat.zero_le _, fun i hi => absurd hi (by simp)⟩
  · simp at hcs
    subst hcs
    have hlm : len ≤ m := by rw [hm]; split <;> omega
    refine ⟨(List.range len).map (fun i => match V i with | .bool b => b | _ => false), some a, cap, by simp, by simp; unfold maxLen at hcm; omega, ?_⟩
    intro i hi
    simp at hi
    have h1 := (hx i (by omega)).1
    obtain ⟨q, e0, _⟩ := DataW.trod_bool Try.underlying4 (hx i (by omega)).2
    simp at e0
    have h00 := (hx 0 (by omega)).1
    obtain ⟨sb, so, sp⟩ := a
    have hsp : sp = none := by
      simp [Addr.add] at h00
      simpa using World.cell?_spot h00
    subst hsp
    rw [addr_add, e0] at h1
    have hb := World.block_lt_of_cell? w _ h1
    refine ⟨sb, so, rfl, ?_, by simp at hb; omega⟩
    rw [h1]
    simp [hi, e0]

theorem read_op {cs : List Value} (hl : cs.length = 5) (h : DataW.trod enc Try.prog w base spare held fuel 44 cs = some x) : OpIs w cs := by
  obtain ⟨fs, hu, hfs⟩ := Try.fields44
  obtain ⟨xs, m, _, _, _, hxl, hel⟩ := DataW.trod_struct hu h
  have hsz : fs.size = 5 := by have := congrArg List.length hfs; simpa using this
  have get : ∀ (i : Nat) (t o : Nat), (fs.toList.map fun f => (f.type, f.offset))[i]? = some (t, o) → Try.prog.cellsOf t = 1 → o < 5 → ∃ y, DataW.trod enc Try.prog w base spare held m t [cs.getD o (.int .i64 0)] = some y := by
    intro i t o hi hc ho
    simp only [List.getElem?_map, Option.map_eq_some_iff] at hi
    obtain ⟨f, hf, hfe⟩ := hi
    have hf' : fs[i]? = some f := by simpa using hf
    have h1 := hel i f hf'
    have ht : f.type = t := congrArg Prod.fst hfe
    have hof : f.offset = o := congrArg Prod.snd hfe
    rw [ht, hof, hc] at h1
    have hi5 : i < fs.size := (Array.getElem?_eq_some_iff.1 hf').1
    obtain ⟨y, hy⟩ : ∃ y, xs[i]? = some y := ⟨_, List.getElem?_eq_getElem (by omega)⟩
    rw [hy] at h1
    have hd : (cs.drop o).take 1 = [cs.getD o (.int .i64 0)] := by
      rw [List.drop_eq_getElem_cons (by omega), List.getD_eq_getElem?_getD, List.getElem?_eq_getElem (by omega)]
      rfl
    rw [hd] at h1
    exact ⟨y, h1⟩
  obtain ⟨v0, v1, v2, v3, v4, rfl⟩ : ∃ v0 v1 v2 v3 v4, cs = [v0, v1, v2, v3, v4] := by
    match cs, hl with
    | [v0, v1, v2, v3, v4], _ => exact ⟨v0, v1, v2, v3, v4, rfl⟩
  obtain ⟨y0, g0⟩ := get 0 3 0 (by rw [hfs]; rfl) Try.cells3 (by decide)
  obtain ⟨y1, g1⟩ := get 1 3 1 (by rw [hfs]; rfl) Try.cells3 (by decide)
  obtain ⟨y2, g2⟩ := get 2 3 2 (by rw [hfs]; rfl) Try.cells3 (by decide)
  obtain ⟨y3, g3⟩ := get 3 28 3 (by rw [hfs]; rfl) Try.cells28 (by decide)
  obtain ⟨y4, g4⟩ := get 4 42 4 (by rw [hfs]; rfl) Try.cells42 (by decide)
  obtain ⟨kd, e0, _, w0⟩ := DataW.trod_int Try.underlying3 g0
  obtain ⟨a, e1, _, w1⟩ := DataW.trod_int Try.underlying3 g1
  obtain ⟨mm, e2, _, w2⟩ := DataW.trod_int Try.underlying3 g2
  obtain ⟨bo, bc, B, e3, b1, b2, b3, b4⟩ := read_bytes g3
  obtain ⟨ks, hk⟩ := read_bools g4
  simp at e0 e1 e2 e3
  subst e0 e1 e2 e3
  exact ⟨kd, a, mm, bo, bc, B, v4, ks, rfl, bounds_i64 w0, (bounds_i64 w1).2, (bounds_i64 w2).2, b1, b2, b3, b4, hk⟩
end

theorem open_ops {H : Type} {enc : TypeId × Value → H} {w : World} {base : Nat} {spare : Nat → Bool} {held : Bool} {ao : Option Addr} {len cap : Nat} {d : DataW H} {p : List MemPlace}
    (h : DataW.Trod enc Try.prog w base spare held 22 (.slice ao len cap) d p) :
    len ≤ 9223372036854775807 ∧ ∀ k, k < len → ∃ sb so vs, ao = some ⟨sb, so, none⟩ ∧ Cells w sb (so + k * 5) vs ∧ OpIs w vs := by
  obtain ⟨fuel, hf⟩ := h
  rcases Go.Deep.open_slice Try.underlying22 hf with ⟨hcs, _⟩ | ⟨a, len', cap', m, n, D, Pl, hcs, _, hl, hcm, hm, _, hx⟩
  · simp [Value.cells] at hcs
    obtain ⟨rfl, rfl, rfl⟩ := hcs
    exact ⟨Nat.zero_le _, fun k hk => absurd hk (by omega)⟩
  · simp [Value.cells] at hcs
    obtain ⟨rfl, rfl, rfl⟩ := hcs
    refine ⟨by unfold maxLen at hcm; omega, fun k hk => ?_⟩
    have hlm : len ≤ m := by rw [hm]; split <;> omega
    obtain ⟨cs', h1, h2⟩ := hx k (by omega)
    rw [Try.cells44] at h1
    obtain ⟨_, hlen, hcell⟩ := World.cells?_some h1
    have hop := read_op hlen h2
    obtain ⟨cs0, g1, g2⟩ := hx 0 (by omega)
    rw [Try.cells44] at g1
    obtain ⟨_, glen, gcell⟩ := World.cells?_some g1
    have h0 := gcell 0 (by omega)
    rw [List.getElem?_eq_getElem (by omega)] at h0
    obtain ⟨sb, so, sp⟩ := a
    have hsp : sp = none := by
      simp [Addr.add] at h0
      simpa using World.cell?_spot h0
    subst hsp
    refine ⟨sb, so, cs', rfl, ?_, hop⟩
    intro j u hj
    have h3 := hcell j (by
      rcases Nat.lt_or_ge j 5 with h | h
      · exact h
      · rw [List.getElem?_eq_none (by omega)] at hj; cases hj)
    rw [addr_add, addr_add] at h3
    rw [h3, hj]

end Go.Proofs.Ytjepiaacaemkhaa
