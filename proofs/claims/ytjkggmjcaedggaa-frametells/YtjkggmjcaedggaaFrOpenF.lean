/-
  Frames among a law's arguments: how they read.
-/
import Derived.Test.YtjkggmjcaedggaaFrOpen
namespace Go.Proofs.Ytjkggmjcaedggaa
open Go.ChangeShapes Go.WideShapes Go.ChangeAt Go.RowKit
set_option linter.unusedSimpArgs false
set_option linter.unusedVariables false

theorem Try.cells24 : Try.prog.cellsOf 24 = 5 := by kernel_rfl
theorem Try.cells3 : Try.prog.cellsOf 3 = 1 := by kernel_rfl
theorem Try.cells22 : Try.prog.cellsOf 22 = 1 := by kernel_rfl
theorem Try.fields24 : ∃ fs, Try.prog.underlying 24 = some (.struct fs) ∧ (fs.toList.map fun f => (f.type, f.offset)) = [(3, 0), (3, 1), (3, 2), (3, 3), (22, 4)] := ⟨_, Try.underlying24, by kernel_rfl⟩

section
variable {H : Type} {enc : TypeId × Value → H} {w : World} {base : Nat} {spare : Nat → Bool} {held : Bool} {fuel : Nat} {v : Value} {x : DataW H × List MemPlace}
theorem read_bytes (h : DataW.trod enc Try.prog w base spare held fuel 22 [v] = some x) : ∃ B : List Nat, B.length ≤ 9223372036854775807 ∧ Src w v B := by
  rcases Go.Deep.open_slice1 Try.underlying22 Try.cells5 h with ⟨hcs, _⟩ | ⟨a, len, cap, m, n, V, D, Pl, hcs, _, hl, hcm, hm, hxe, hx⟩
  · simp at hcs
    subst hcs
    exact ⟨[], Nat.zero_le _, Src.nil w⟩
  · simp at hcs
    subst hcs
    have hh : DataW.Trod enc Try.prog w base spare held 22 (.slice (some a) len cap) x.1 x.2 := ⟨fuel, by simpa [Value.cells] using h⟩
    obtain ⟨B, h1, h2, h3, _⟩ := open_bytes hh
    exact ⟨B, by omega, h3⟩
theorem read_frame {cs : List Value} (hl : cs.length = 5) (h : DataW.trod enc Try.prog w base spare held fuel 24 cs = some x) : ∃ (f : Fr) (vb : Value), cs = frV f vb ∧ Src w vb f.B ∧ f.B.length ≤ 9223372036854775807 := by
  obtain ⟨fs, hu, hfs⟩ := Try.fields24
  obtain ⟨xs, m, _, _, _, hxl, hel⟩ := DataW.trod_struct hu h
  have hsz : fs.size = 5 := by have := congrArg List.length hfs; simpa using this
  have get : ∀ (i : Nat) (t o : Nat), (fs.toList.map fun f => (f.type, f.offset))[i]? = some (t, o) → Try.prog.cellsOf t = 1 → o < 5 → ∃ y, DataW.trod enc Try.prog w base spare held m t [cs.getD o (.int .i64 0)] = some y := by
    intro i t o hi hc ho
    simp only [List.getElem?_map, Option.map_eq_some_iff] at hi
    obtain ⟨f, hf, hfe⟩ := hi
    have hf' : fs[i]? = some f := by simpa using hf
    have h1 := hel i f hf'
    have ht : f.type = t := congrArg Prod.fst hfe
    have hof : f.offset = o := congrArg Prod.snd hfe
    rw [ht, hof, hc] at h1
    have hi5 : i < fs.size := (Array.getElem?_eq_some_iff.1 hf').1
    obtain ⟨y, hy⟩ : ∃ y, xs[i]? = some y := ⟨_, List.getElem?_eq_getElem (by omega)⟩
    rw [hy] at h1
    have hd : (cs.drop o).take 1 = [cs.getD o (.int .i64 0)] := by
      rw [List.drop_eq_getElem_cons (by omega), List.getD_eq_getElem?_getD, List.getElem?_eq_getElem (by omega)]
      rfl
    rw [hd] at h1
    exact ⟨y, h1⟩
  obtain ⟨v0, v1, v2, v3, v4, rfl⟩ : ∃ v0 v1 v2 v3 v4, cs = [v0, v1, v2, v3, v4] := by
    match cs, hl with
    | [v0, v1, v2, v3, v4], _ => exact ⟨v0, v1, v2, v3, v4, rfl⟩
  obtain ⟨y0, g0⟩ := get 0 3 0 (by rw [hfs]; rfl) Try.cells3 (by decide)
  obtain ⟨y1, g1⟩ := get 1 3 1 (by rw [hfs]; rfl) Try.cells3 (by decide)
  obtain ⟨y2, g2⟩ := get 2 3 2 (by rw [hfs]; rfl) Try.cells3 (by decide)
  obtain ⟨y3, g3⟩ := get 3 3 3 (by rw [hfs]; rfl) Try.cells3 (by decide)
  obtain ⟨y4, g4⟩ := get 4 22 4 (by rw [hfs]; rfl) Try.cells22 (by decide)
  obtain ⟨l, e0, _, _⟩ := DataW.trod_int Try.underlying3 g0
  obtain ⟨e, e1, _, _⟩ := DataW.trod_int Try.underlying3 g1
  obtain ⟨i, e2, _, _⟩ := DataW.trod_int Try.underlying3 g2
  obtain ⟨c, e3, _, _⟩ := DataW.trod_int Try.underlying3 g3
  obtain ⟨B, b1, b2⟩ := read_bytes g4
  simp at e0 e1 e2 e3 b2
  subst e0 e1 e2 e3
  exact ⟨⟨l, e, i, c, B⟩, v4, rfl, b2, b1⟩
end
theorem open_frame {H : Type} {enc : TypeId × Value → H} {w : World} {base b0 : Nat} {spare : Nat → Bool} {held : Bool} {v : Value} {d : DataW H} {p : List MemPlace} (hv : Value.okWide Try.prog w .any b0 24 v)
    (h : DataW.Trod enc Try.prog w base spare held 24 v d p) : ∃ (f : Fr) (vb : Value), v = frAgg f vb ∧ Src w vb f.B ∧ f.B.length ≤ 9223372036854775807 := by
  obtain ⟨cs, rfl, hsz⟩ := okWide_struct Try.underlying24 hv
  rw [Try.cells24] at hsz
  obtain ⟨fuel, hf⟩ := h
  obtain ⟨f, vb, hcs, h1, h2⟩ := read_frame (cs := cs.toList) (x := (d, p)) (by simpa using hsz) (by simpa [Value.cells] using hf)
  refine ⟨f, vb, ?_, h1, h2⟩
  have : cs = (frV f vb).toArray := by rw [← hcs]
  rw [this]
  rfl
end Go.Proofs.Ytjkggmjcaedggaa
