/-
  Bytes and lists of operations among a law's arguments: how they read.
-/
import Derived.Test.YteffiglfeenokaaPOps
import Derived.ProofKit
import Derived.OpenShut
import Derived.ShutString
import Derived.ChangeOld
import Derived.Deep.Slices
namespace Go.Proofs.Yteffiglfeenokaa
open Go.ChangeShapes Go.WideShapes Go.ChangeAt Go.RowKit
set_option linter.unusedSimpArgs false
set_option linter.unusedVariables false

theorem Try.ownK : ownKnob Try.prog.godebug = none := by kernel_rfl
theorem Try.laidOutK : laidOutB Try.prog = true := by kernel_rfl
theorem Try.cells5 : Try.prog.cellsOf 5 = 1 := by kernel_rfl
theorem Try.cells29 : Try.prog.cellsOf 29 = 4 := by kernel_rfl
theorem Try.cells3 : Try.prog.cellsOf 3 = 1 := by kernel_rfl
theorem Try.cells25 : Try.prog.cellsOf 25 = 1 := by kernel_rfl
theorem Try.fields29 : ∃ fs, Try.prog.underlying 29 = some (.struct fs) ∧ (fs.toList.map fun f => (f.type, f.offset)) = [(3, 0), (3, 1), (3, 2), (25, 3)] := ⟨_, Try.underlying29, by kernel_rfl⟩

section
variable {H : Type} {enc : TypeId × Value → H} {w : World} {base : Nat} {spare : Nat → Bool} {held : Bool} {fuel : Nat} {v : Value} {x : DataW H × List MemPlace}
theorem read_bytes (h : DataW.trod enc Try.prog w base spare held fuel 25 [v] = some x) : ∃ B : List Nat, B.length ≤ 9223372036854775807 ∧ Src w v B := by
  rcases Go.Deep.open_slice1 Try.underlying25 Try.cells5 h with ⟨hcs, _⟩ | ⟨a, len, cap, m, n, V, D, Pl, hcs, _, hl, hcm, hm, hxe, hx⟩
  · simp at hcs
    subst hcs
    exact ⟨[], Nat.zero_le _, Src.nil w⟩
  · simp at hcs
    subst hcs
    have hlm : len ≤ m := by rw [hm]; split <;> omega
    have each : ∀ i, i < len → ∃ q : Nat, V i = .int .u8 (q : Int) ∧ q < 256 := by
      intro i hi
      obtain ⟨q, e0, _, wq⟩ := DataW.trod_int Try.underlying5 (hx i (by omega)).2
      have hb := bounds_u8 wq
      simp at e0
      exact ⟨q.toNat, by rw [e0]; congr 1; omega, by omega⟩
    have hnum : ∀ i, i < len → V i = .int .u8 ((match V i with | .int _ n => n.toNat | _ => 0 : Nat) : Int) ∧ (match V i with | .int _ n => n.toNat | _ => 0 : Nat) < 256 := by
      intro i hi
      obtain ⟨q, e, hq⟩ := each i hi
      rw [e]
      exact ⟨by simp, by simpa using hq⟩
    refine ⟨(List.range len).map (fun i => match V i with | .int _ n => n.toNat | _ => 0), by simp; unfold maxLen at hcm; omega, ⟨some a, cap, by simp, by simpa using hl, ?_, ?_, fun h => by cases h⟩⟩
    · intro u hu
      simp only [List.mem_map, List.mem_range] at hu
      obtain ⟨i, hi, rfl⟩ := hu
      exact (hnum i hi).2
    · intro h0
      simp at h0
      have h1 := (hx 0 (by omega)).1
      obtain ⟨sb, so, sp⟩ := a
      have hsp : sp = none := by
        simp [Addr.add] at h1
        simpa using World.cell?_spot h1
      subst hsp
      refine ⟨sb, so, rfl, ?_⟩
      intro j u hj
      simp only [BV, List.map_map] at hj
      obtain ⟨hj1, hj2⟩ := List.getElem?_eq_some_iff.1 hj
      simp only [List.length_map, List.length_range] at hj1
      simp only [List.getElem_map, List.getElem_range, Function.comp] at hj2
      have h2 := (hx j (by omega)).1
      rw [addr_add] at h2
      rw [h2, (hnum j hj1).1, hj2]

theorem read_op {cs : List Value} (hl : cs.length = 4) (h : DataW.trod enc Try.prog w base spare held fuel 29 cs = some x) : ∃ o : OpV, cs = o.cells ∧ OpIs w o := by
  obtain ⟨fs, hu, hfs⟩ := Try.fields29
  obtain ⟨xs, m, _, _, _, hxl, hel⟩ := DataW.trod_struct hu h
  have hsz : fs.size = 4 := by have := congrArg List.length hfs; simpa using this
  have get : ∀ (i : Nat) (t o : Nat), (fs.toList.map fun f => (f.type, f.offset))[i]? = some (t, o) → Try.prog.cellsOf t = 1 → o < 4 → ∃ y, DataW.trod enc Try.prog w base spare held m t [cs.getD o (.int .i64 0)] = some y := by
    intro i t o hi hc ho
    simp only [List.getElem?_map, Option.map_eq_some_iff] at hi
    obtain ⟨f, hf, hfe⟩ := hi
    have hf' : fs[i]? = some f := by simpa using hf
    have h1 := hel i f hf'
    have ht : f.type = t := congrArg Prod.fst hfe
    have hof : f.offset = o := congrArg Prod.snd hfe
    rw [ht, hof, hc] at h1
    have hi5 : i < fs.size := (Array.getElem?_eq_some_iff.1 hf').1
    obtain ⟨y, hy⟩ : ∃ y, xs[i]? = some y := ⟨_, List.getElem?_eq_getElem (by omega)⟩
    rw [hy] at h1
    have hd : (cs.drop o).take 1 = [cs.getD o (.int .i64 0)] := by
      rw [List.drop_eq_getElem_cons (by omega), List.getD_eq_getElem?_getD, List.getElem?_eq_getElem (by omega)]
      rfl
    rw [hd] at h1
    exact ⟨y, h1⟩
  obtain ⟨v0, v1, v2, v3, rfl⟩ : ∃ v0 v1 v2 v3, cs = [v0, v1, v2, v3] := by
    match cs, hl with
    | [v0, v1, v2, v3], _ => exact ⟨v0, v1, v2, v3, rfl⟩
  obtain ⟨y0, g0⟩ := get 0 3 0 (by rw [hfs]; rfl) Try.cells3 (by decide)
  obtain ⟨y1, g1⟩ := get 1 3 1 (by rw [hfs]; rfl) Try.cells3 (by decide)
  obtain ⟨y2, g2⟩ := get 2 3 2 (by rw [hfs]; rfl) Try.cells3 (by decide)
  obtain ⟨y3, g3⟩ := get 3 25 3 (by rw [hfs]; rfl) Try.cells25 (by decide)
  obtain ⟨kd, e0, _, w0⟩ := DataW.trod_int Try.underlying3 g0
  obtain ⟨a, e1, _, w1⟩ := DataW.trod_int Try.underlying3 g1
  obtain ⟨mm, e2, _, w2⟩ := DataW.trod_int Try.underlying3 g2
  obtain ⟨B, b1, b2⟩ := read_bytes g3
  simp at e0 e1 e2 b2
  subst e0 e1 e2
  exact ⟨⟨kd, a, mm, v3, B⟩, rfl, b2, bounds_i64 w0, bounds_i64 w1, bounds_i64 w2, b1⟩
end

theorem open_bytes {H : Type} {enc : TypeId × Value → H} {w : World} {base : Nat} {spare : Nat → Bool} {held : Bool} {ao : Option Addr} {len cap : Nat} {d : DataW H} {p : List MemPlace}
    (h : DataW.Trod enc Try.prog w base spare held 25 (.slice ao len cap) d p) : ∃ B : List Nat, B.length = len ∧ len ≤ 9223372036854775807 ∧ Src w (.slice ao len cap) B := by
  obtain ⟨fuel, hf⟩ := h
  obtain ⟨B, h1, h2⟩ := read_bytes (v := .slice ao len cap) (x := (d, p)) (by simpa [Value.cells] using hf)
  obtain ⟨bo, c, e, _⟩ := id h2
  cases e
  exact ⟨B, rfl, h1, h2⟩

theorem open_ops {H : Type} {enc : TypeId × Value → H} {w : World} {base : Nat} {spare : Nat → Bool} {held : Bool} {ao : Option Addr} {len cap : Nat} {d : DataW H} {p : List MemPlace}
    (h : DataW.Trod enc Try.prog w base spare held 22 (.slice ao len cap) d p) : ∃ L : List OpV, L.length = len ∧ len ≤ 9223372036854775807 ∧ OpsAt w ao L := by
  obtain ⟨fuel, hf⟩ := h
  rcases Go.Deep.open_slice Try.underlying22 hf with ⟨hcs, _⟩ | ⟨a, len', cap', m, n, D, Pl, hcs, _, hl, hcm, hm, _, hx⟩
  · simp [Value.cells] at hcs
    obtain ⟨rfl, rfl, rfl⟩ := hcs
    exact ⟨[], rfl, Nat.zero_le _, fun k hk => absurd hk (by simp)⟩
  · simp [Value.cells] at hcs
    obtain ⟨rfl, rfl, rfl⟩ := hcs
    have hlm : len ≤ m := by rw [hm]; split <;> omega
    have each : ∀ k, k < len → ∃ (sb so : Nat) (o : OpV), a = ⟨sb, so, none⟩ ∧ Cells w sb (so + k * 4) o.cells ∧ OpIs w o := by
      intro k hk
      obtain ⟨cs', h1, h2⟩ := hx k (by omega)
      rw [Try.cells29] at h1
      obtain ⟨_, hlen, hcell⟩ := World.cells?_some h1
      obtain ⟨o, rfl, hop⟩ := read_op hlen h2
      obtain ⟨cs0, g1, g2⟩ := hx 0 (by omega)
      rw [Try.cells29] at g1
      obtain ⟨_, glen, gcell⟩ := World.cells?_some g1
      have h0 := gcell 0 (by omega)
      rw [List.getElem?_eq_getElem (by omega)] at h0
      obtain ⟨sb, so, sp⟩ := a
      have hsp : sp = none := by
        simp [Addr.add] at h0
        simpa using World.cell?_spot h0
      subst hsp
      refine ⟨sb, so, o, rfl, ?_, hop⟩
      intro j u hj
      have h3 := hcell j (by
        rcases Nat.lt_or_ge j 4 with h | h
        · exact h
        · rw [List.getElem?_eq_none (by omega)] at hj; cases hj)
      rw [addr_add, addr_add] at h3
      rw [h3, hj]
    have dflt : OpV := ⟨0, 0, 0, .slice none 0 0, []⟩
    obtain ⟨f, hf⟩ : ∃ f : Nat → OpV, ∀ k, k < len → ∃ sb so, a = ⟨sb, so, none⟩ ∧ Cells w sb (so + k * 4) (f k).cells ∧ OpIs w (f k) := by
      have : ∀ k, ∃ o : OpV, k < len → ∃ sb so, a = ⟨sb, so, none⟩ ∧ Cells w sb (so + k * 4) o.cells ∧ OpIs w o := by
        intro k
        by_cases hk : k < len
        · obtain ⟨sb, so, o, h1, h2, h3⟩ := each k hk
          exact ⟨o, fun _ => ⟨sb, so, h1, h2, h3⟩⟩
        · exact ⟨dflt, fun h => absurd h hk⟩
      exact ⟨fun k => Classical.choose (this k), fun k hk => Classical.choose_spec (this k) hk⟩
    refine ⟨(List.range len).map f, by simp, by unfold maxLen at hcm; omega, ?_⟩
    intro k hk
    simp at hk
    obtain ⟨sb, so, h1, h2, h3⟩ := hf k hk
    refine ⟨sb, so, by rw [h1], ?_, ?_⟩
    · simpa using h2
    · simpa using h3

end Go.Proofs.Yteffiglfeenokaa
