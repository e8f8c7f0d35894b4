/-
  OrderPlays answers true for every list of operations, and its argument reads afterwards as before. Conditions: none.
-/
import Derived.Test.YtkchlmpfegjkfaaPlaysX
import Derived.ProofKit
import Derived.OpenShut
import Derived.ShutString
import Derived.ChangeOld
import Derived.Deep.Slices
namespace Go.Proofs.Ytkchlmpfegjkfaa
open Go.ChangeShapes Go.WideShapes Go.ChangeAt Go.RowKit
set_option linter.unusedSimpArgs false
set_option linter.unusedVariables false

theorem Try.ownP : ownKnob Try.prog.godebug = none := by kernel_rfl
theorem Try.laidOutP : laidOutB Try.prog = true := by kernel_rfl
theorem Try.cells28 : Try.prog.cellsOf 28 = 4 := by kernel_rfl
theorem Try.cells3P : Try.prog.cellsOf 3 = 1 := by kernel_rfl
theorem Try.cells9P : Try.prog.cellsOf 9 = 1 := by kernel_rfl
theorem Try.fields28 : ∃ fs, Try.prog.underlying 28 = some (.struct fs) ∧ (fs.toList.map fun f => (f.type, f.offset)) = [(3, 0), (3, 1), (3, 2), (9, 3)] := ⟨_, Try.underlying28, by kernel_rfl⟩

section
variable {H : Type} {enc : TypeId × Value → H} {w : World} {base : Nat} {spare : Nat → Bool} {held : Bool} {fuel : Nat} {v : Value} {x : DataW H × List MemPlace}
theorem four_of {α : Type} {cs : List α} (hl : cs.length = 4) : ∃ v0 v1 v2 v3, cs = [v0, v1, v2, v3] := by
  match cs, hl with
  | [v0, v1, v2, v3], _ => exact ⟨v0, v1, v2, v3, rfl⟩

set_option maxRecDepth 100000 in
theorem read_opP {cs : List Value} (hl : cs.length = 4) (h : DataW.trod enc Try.prog w base spare held fuel 28 cs = some x) : ∃ o : OpP, cs = o.cells := by
  obtain ⟨fs, hu, hfs⟩ := Try.fields28
  obtain ⟨xs, m, _, _, _, hxl, hel⟩ := DataW.trod_struct hu h
  have hsz : fs.size = 4 := by have := congrArg List.length hfs; simpa using this
  have get : ∀ (i : Nat) (t o : Nat), (fs.toList.map fun f => (f.type, f.offset))[i]? = some (t, o) → Try.prog.cellsOf t = 1 → o < 4 → ∃ y, DataW.trod enc Try.prog w base spare held m t [cs.getD o (.int .i64 0)] = some y := by
    intro i t o hi hc ho
    simp only [List.getElem?_map, Option.map_eq_some_iff] at hi
    obtain ⟨f, hf, hfe⟩ := hi
    have hf' : fs[i]? = some f := by simpa using hf
    have h1 := hel i f hf'
    have ht : f.type = t := congrArg Prod.fst hfe
    have hof : f.offset = o := congrArg Prod.snd hfe
    rw [ht, hof, hc] at h1
    have hi5 : i < fs.size := (Array.getElem?_eq_some_iff.1 hf').1
    obtain ⟨y, hy⟩ : ∃ y, xs[i]? = some y := ⟨_, List.getElem?_eq_getElem (by omega)⟩
    rw [hy] at h1
    have hd : (cs.drop o).take 1 = [cs.getD o (.int .i64 0)] := by
      rw [List.drop_eq_getElem_cons (by omega), List.getD_eq_getElem?_getD, List.getElem?_eq_getElem (by omega)]
      rfl
    rw [hd] at h1
    exact ⟨y, h1⟩
  obtain ⟨v0, v1, v2, v3, rfl⟩ := four_of hl
  obtain ⟨y0, g0⟩ := get 0 3 0 (by rw [hfs]; rfl) Try.cells3P (by decide)
  obtain ⟨y1, g1⟩ := get 1 3 1 (by rw [hfs]; rfl) Try.cells3P (by decide)
  obtain ⟨y2, g2⟩ := get 2 3 2 (by rw [hfs]; rfl) Try.cells3P (by decide)
  obtain ⟨y3, g3⟩ := get 3 9 3 (by rw [hfs]; rfl) Try.cells9P (by decide)
  obtain ⟨kd, e0, _, w0⟩ := DataW.trod_int Try.underlying3 g0
  obtain ⟨ky, e1, _, w1⟩ := DataW.trod_int Try.underlying3 g1
  obtain ⟨st, e2, _, w2⟩ := DataW.trod_int Try.underlying3 g2
  obtain ⟨s, e3, _, _⟩ := DataW.trod_string Try.underlying9 g3
  simp at e0 e1 e2 e3
  subst e0 e1 e2 e3
  exact ⟨⟨kd, ky, st, s⟩, rfl⟩
end

set_option maxRecDepth 100000 in
theorem open_opsP {H : Type} {enc : TypeId × Value → H} {w : World} {base : Nat} {spare : Nat → Bool} {held : Bool} {ao : Option Addr} {len cap : Nat} {d : DataW H} {p : List MemPlace}
    (h : DataW.Trod enc Try.prog w base spare held 22 (.slice ao len cap) d p) : ∃ L : List OpP, L.length = len ∧ len ≤ 9223372036854775807 ∧ OpsP w ao L := by
  obtain ⟨fuel, hf⟩ := h
  rcases Go.Deep.open_slice Try.underlying22 hf with ⟨hcs, _⟩ | ⟨a, len', cap', m, n, D, Pl, hcs, _, hl, hcm, hm, _, hx⟩
  · simp [Value.cells] at hcs
    obtain ⟨rfl, rfl, rfl⟩ := hcs
    exact ⟨[], rfl, Nat.zero_le _, fun k hk => absurd hk (by simp)⟩
  · simp [Value.cells] at hcs
    obtain ⟨rfl, rfl, rfl⟩ := hcs
    have hlm : len ≤ m := by rw [hm]; split <;> omega
    have each : ∀ k, k < len → ∃ (sb so : Nat) (o : OpP), a = ⟨sb, so, none⟩ ∧ Cells w sb (so + k * 4) o.cells := by
      intro k hk
      obtain ⟨cs', h1, h2⟩ := hx k (by omega)
      rw [Try.cells28] at h1
      obtain ⟨_, hlen, hcell⟩ := World.cells?_some h1
      obtain ⟨o, rfl⟩ := read_opP hlen h2
      obtain ⟨cs0, g1, g2⟩ := hx 0 (by omega)
      rw [Try.cells28] at g1
      obtain ⟨_, glen, gcell⟩ := World.cells?_some g1
      have h0 := gcell 0 (by omega)
      rw [List.getElem?_eq_getElem (by omega)] at h0
      obtain ⟨sb, so, sp⟩ := a
      have hsp : sp = none := by
        simp [Addr.add] at h0
        simpa using World.cell?_spot h0
      subst hsp
      refine ⟨sb, so, o, rfl, ?_⟩
      intro j u hj
      have h3 := hcell j (by
        rcases Nat.lt_or_ge j 4 with h | h
        · exact h
        · rw [List.getElem?_eq_none (by simp [OpP.cells]; omega)] at hj; cases hj)
      rw [addr_add, addr_add] at h3
      rw [h3, hj]
    have dflt : OpP := ⟨0, 0, 0, ByteArray.empty⟩
    obtain ⟨f, hf⟩ : ∃ f : Nat → OpP, ∀ k, k < len → ∃ sb so, a = ⟨sb, so, none⟩ ∧ Cells w sb (so + k * 4) (f k).cells := by
      have : ∀ k, ∃ o : OpP, k < len → ∃ sb so, a = ⟨sb, so, none⟩ ∧ Cells w sb (so + k * 4) o.cells := by
        intro k
        by_cases hk : k < len
        · obtain ⟨sb, so, o, h1, h2⟩ := each k hk
          exact ⟨o, fun _ => ⟨sb, so, h1, h2⟩⟩
        · exact ⟨dflt, fun h => absurd h hk⟩
      exact ⟨fun k => Classical.choose (this k), fun k hk => Classical.choose_spec (this k) hk⟩
    refine ⟨(List.range len).map f, by simp, by unfold maxLen at hcm; omega, ?_⟩
    intro k hk
    simp at hk
    obtain ⟨sb, so, h1, h2⟩ := hf k hk
    refine ⟨sb, so, by rw [h1], ?_⟩
    simpa using h2

set_option maxRecDepth 100000 in
theorem plays_lifted (os : Os) (started : os.Started) (H : Type) (enc : TypeId × Value → H) :
    ReturnsInHanded {} Try.checked os 3 .any (Rows.orderPlaysSpec.pre6 enc Try.prog Try.f3 Rows.orderPlaysRow.domain false) (Rows.orderPlaysSpec.post enc Try.prog Try.f3 false true false false) := by
  refine returnsInHanded_of_change (C := Try.checked) Try.ownP started (by kernel_rfl) Try.func3
    (ChangeSpec.witness6 (enc := enc) (C := Try.checked) false ⟨#[], #[.slice none 0 0], []⟩ 8 (by kernel_rfl) (by kernel_rfl) (by kernel_rfl) (by kernel_rfl)) ?_
  intro W base args ds gs before hval0 hW hcnd _
  have hval : ∀ (j : Nat) t v, Try.f3.params[j]? = some t → args[j]? = some v → Value.okWide Try.prog W .any base t v := hval0
  have hW' := hW
  obtain ⟨p, q, hA0, hV, rfl, hfz, hnd⟩ := hW
  have hA : DataW.TrodAll enc Try.prog W 0 (fun _ => true) true Try.f3.params.toList args.toList ds p := hA0
  rw [Try.params3] at hA hval
  obtain ⟨v0, d0, rfl, rfl, h0⟩ := trodAll_one hA
  obtain ⟨rfl, rfl⟩ := trodVars_none hV
  obtain ⟨ao, len, cap, rfl⟩ := okWide_slice Try.underlying22 (hval 0 22 v0 rfl rfl)
  have k0 := h0
  have lt0 : ∀ x ∈ p, x.block < W.heap.size := by obtain ⟨m, hm⟩ := k0; exact DataW.trod_lt m _ _ _ hm
  obtain ⟨L, hL, hlm, hops⟩ := open_opsP h0
  clear hA0 hval0
  subst hL
  refine (plays_any W ao cap L hops hlm).mono fun e W' ⟨he, hk⟩ => ?_
  subst he
  have bel := hk.below
  exact ⟨_, rfl, _, _, _, [], _, [], hW', trodAll_mk1 (shut_bool Try.underlying4 _), (trodAll_cons_mk (Below.trod Try.laidOutP (by kernel_rfl) (of_decide_eq_true (by kernel_rfl)) k0 bel lt0) trodAll_mk0), rfl, bel.frame _, fun h => by cases h⟩

theorem orderPlays_holds : Rows.OrderPlaysSaid :=
  OpenClaim.holds_of_wide 3 Try.f3 rfl rfl rfl rfl rfl rfl rfl ⟨rfl, rfl, rfl, rfl, rfl⟩ rfl rfl rfl rfl rfl (by kernel_rfl) Try.func3 (by kernel_rfl)
    (of_decide_eq_true (by kernel_rfl)) (by unfold Func.isWrapper; first | (rw [if_pos (by decide +kernel)]; kernel_rfl) | (rw [if_neg (by decide +kernel)]; exact ⟨rfl, rfl⟩))
    (fun os started H enc _ => plays_lifted os started H enc)

end Go.Proofs.Ytkchlmpfegjkfaa
