/-
  Operations of PoolPlays among its arguments; PoolPlays answers true for every two numbers and every list of operations, and its arguments read afterwards as before. Conditions: none.
-/
import Derived.Test.YtnlcmgdeohbmoaaPrLaw
import Derived.Test.YtnlcmgdeohbmoaaJ49
namespace Go.Proofs.Ytnlcmgdeohbmoaa
open Go.ChangeShapes Go.WideShapes Go.ChangeAt Go.RowKit
set_option linter.unusedSimpArgs false
set_option linter.unusedVariables false
set_option maxRecDepth 100000

theorem Try.cellsO53 : Try.prog.cellsOf 53 = 4 := by kernel_rfl
theorem Try.cellsO3 : Try.prog.cellsOf 3 = 1 := by kernel_rfl
theorem Try.cellsO4 : Try.prog.cellsOf 4 = 1 := by kernel_rfl
theorem Try.cellsO51 : Try.prog.cellsOf 51 = 1 := by kernel_rfl
theorem Try.cellsO35 : Try.prog.cellsOf 35 = 1 := by kernel_rfl
theorem Try.fieldsOpP : ∃ fs, Try.prog.underlying 53 = some (.struct fs) ∧ (fs.toList.map fun f => (f.type, f.offset)) = [(3, 0), (3, 1), (51, 2), (35, 3)] := ⟨_, Try.underlying53, by kernel_rfl⟩
theorem four_of : ∀ {cs : List Value}, cs.length = 4 → ∃ v0 v1 v2 v3, cs = [v0, v1, v2, v3]
  | [v0, v1, v2, v3], _ => ⟨v0, v1, v2, v3, rfl⟩
section
variable {H : Type} {enc : TypeId × Value → H} {w : World} {base : Nat} {spare : Nat → Bool} {held : Bool} {fuel : Nat} {v : Value} {x : DataW H × List MemPlace}
theorem read_boolsP (h : DataW.trod enc Try.prog w base spare held fuel 35 [v] = some x) : ∃ (s : Sl) (ks : List Bool), v = .slice s.a s.n s.c ∧ D.keepIs w s.v ks (fun k => w.heap.size ≤ k) := by
  rcases Go.Deep.open_slice1 Try.underlying35 Try.cellsO4 h with ⟨hcs, _⟩ | ⟨a, len, cap, m, n, V, D, Pl, hcs, _, hl, hcm, hm, _, hx⟩
  · simp at hcs
    subst hcs
    exact ⟨⟨none, 0, 0⟩, [], rfl, none, 0, rfl, Nat.zero_le _, fun i hi => absurd hi (by simp)⟩
  · simp at hcs
    subst hcs
    have hlm : len ≤ m := by rw [hm]; split <;> omega
    refine ⟨⟨some a, len, cap⟩, (List.range len).map (fun i => match V i with | .bool b => b | _ => false), rfl, some a, cap, by simp [Sl.v], by simp; unfold maxLen at hcm; omega, ?_⟩
    intro i hi
    simp at hi
    have h1 := (hx i (by omega)).1
    obtain ⟨q, e0, _⟩ := DataW.trod_bool Try.underlying4 (hx i (by omega)).2
    simp at e0
    have h00 := (hx 0 (by omega)).1
    obtain ⟨sb, so, sp⟩ := a
    have hsp : sp = none := by
      simp [Addr.add] at h00
      simpa using World.cell?_spot h00
    subst hsp
    rw [addr_add, e0] at h1
    have hb := World.block_lt_of_cell? w _ h1
    refine ⟨sb, so, rfl, ?_, by simp at hb; omega⟩
    rw [h1]
    simp [hi, e0]
theorem read_opP {cs : List Value} (hl : cs.length = 4) (h : DataW.trod enc Try.prog w base spare held fuel 53 cs = some x) : ∃ y : OpP, cs = OpP.cells y ∧ OpIs w y := by
  obtain ⟨fs, hu, hfs⟩ := Try.fieldsOpP
  obtain ⟨xs, m, _, _, _, hxl, hel⟩ := DataW.trod_struct hu h
  have hsz : fs.size = 4 := by have := congrArg List.length hfs; simpa using this
  have get : ∀ (i : Nat) (t o : Nat), (fs.toList.map fun f => (f.type, f.offset))[i]? = some (t, o) → Try.prog.cellsOf t = 1 → o < 4 → ∃ y, DataW.trod enc Try.prog w base spare held m t [cs.getD o (.int .i64 0)] = some y := by
    intro i t o hi hc ho
    simp only [List.getElem?_map, Option.map_eq_some_iff] at hi
    obtain ⟨f, hf, hfe⟩ := hi
    have hf' : fs[i]? = some f := by simpa using hf
    have h1 := hel i f hf'
    have ht : f.type = t := congrArg Prod.fst hfe
    have hof : f.offset = o := congrArg Prod.snd hfe
    rw [ht, hof, hc] at h1
    have hi5 : i < fs.size := (Array.getElem?_eq_some_iff.1 hf').1
    obtain ⟨y, hy⟩ : ∃ y, xs[i]? = some y := ⟨_, List.getElem?_eq_getElem (by omega)⟩
    rw [hy] at h1
    have hd : (cs.drop o).take 1 = [cs.getD o (.int .i64 0)] := by
      rw [List.drop_eq_getElem_cons (by omega), List.getD_eq_getElem?_getD, List.getElem?_eq_getElem (by omega)]
      rfl
    rw [hd] at h1
    exact ⟨y, h1⟩
  obtain ⟨v0, v1, v2, v3, rfl⟩ := four_of hl
  obtain ⟨y0, g0⟩ := get 0 3 0 (by rw [hfs]; rfl) Try.cellsO3 (by decide)
  obtain ⟨y1, g1⟩ := get 1 3 1 (by rw [hfs]; rfl) Try.cellsO3 (by decide)
  obtain ⟨y2, g2⟩ := get 2 51 2 (by rw [hfs]; rfl) Try.cellsO51 (by decide)
  obtain ⟨y3, g3⟩ := get 3 35 3 (by rw [hfs]; rfl) Try.cellsO35 (by decide)
  obtain ⟨kd, e0, _, w0⟩ := DataW.trod_int Try.underlying3 g0
  obtain ⟨a, e1, _, w1⟩ := DataW.trod_int Try.underlying3 g1
  obtain ⟨s, l, b1, b2, _⟩ := read_ws g2
  obtain ⟨kv, ks, c1, c2⟩ := read_boolsP g3
  simp at e0 e1 b1 c1
  subst e0 e1 b1 c1
  exact ⟨⟨kd, a, s, l, kv, ks⟩, rfl, ⟨b2, c2, bounds_i64 w0, bounds_i64 w1⟩⟩
end
theorem open_opsP {H : Type} {enc : TypeId × Value → H} {w : World} {base : Nat} {spare : Nat → Bool} {held : Bool} {ao : Option Addr} {len cap : Nat} {d : DataW H} {p : List MemPlace}
    (h : DataW.Trod enc Try.prog w base spare held 22 (.slice ao len cap) d p) : OpsP w (.slice ao len cap) len := by
  obtain ⟨fuel, hf⟩ := h
  rcases Go.Deep.open_slice Try.underlying22 hf with ⟨hcs, _⟩ | ⟨a, len', cap', m, n, D, Pl, hcs, _, hl, hcm, hm, _, hx⟩
  · simp [Value.cells] at hcs
    obtain ⟨rfl, rfl, rfl⟩ := hcs
    exact ⟨none, 0, rfl, Nat.zero_le _, fun k hk => absurd hk (by omega)⟩
  · simp [Value.cells] at hcs
    obtain ⟨rfl, rfl, rfl⟩ := hcs
    refine ⟨_, cap, rfl, by unfold maxLen at hcm; omega, fun k hk => ?_⟩
    have hlm : len ≤ m := by rw [hm]; split <;> omega
    obtain ⟨cs', h1, h2⟩ := hx k (by omega)
    rw [Try.cellsO53] at h1
    obtain ⟨_, hlen, hcell⟩ := World.cells?_some h1
    obtain ⟨y, rfl, hop⟩ := read_opP hlen h2
    obtain ⟨cs0, g1, g2⟩ := hx 0 (by omega)
    rw [Try.cellsO53] at g1
    obtain ⟨_, glen, gcell⟩ := World.cells?_some g1
    have h0 := gcell 0 (by omega)
    rw [List.getElem?_eq_getElem (by omega)] at h0
    obtain ⟨sb, so, sp⟩ := a
    have hsp : sp = none := by
      simp [Addr.add] at h0
      simpa using World.cell?_spot h0
    subst hsp
    refine ⟨sb, so, y, rfl, ?_, hop⟩
    intro j u hj
    have h3 := hcell j (by
      rcases Nat.lt_or_ge j 4 with h | h
      · exact h
      · rw [List.getElem?_eq_none (by rw [hlen]; exact h)] at hj; cases hj)
    rw [addr_add, addr_add] at h3
    rw [h3, hj]
theorem poolplays_lifted (os : Os) (started : os.Started) (H : Type) (enc : TypeId × Value → H) :
    ReturnsInHanded {} Try.checked os 3 .any (Rows.poolPlaysSpec.pre6 enc Try.prog Try.f3 Rows.poolPlaysRow.domain false) (Rows.poolPlaysSpec.post enc Try.prog Try.f3 false true false false) := by
  refine returnsInHanded_of_change (C := Try.checked) Try.ownK started (by kernel_rfl) Try.func3
    (ChangeSpec.witness6 (enc := enc) (C := Try.checked) false ⟨#[], #[.int .i64 0, .int .i64 0, .slice none 0 0], []⟩ 8 (by kernel_rfl) (by kernel_rfl) (by kernel_rfl) (by kernel_rfl)) ?_
  intro W base args ds gs before hval0 hW hcnd _
  have hval : ∀ (j : Nat) t v, Try.f3.params[j]? = some t → args[j]? = some v → Value.okWide Try.prog W .any base t v := hval0
  have hW' := hW
  obtain ⟨p, q, hA0, hV, rfl, hfz, hnd⟩ := hW
  have hA : DataW.TrodAll enc Try.prog W 0 (fun _ => true) true Try.f3.params.toList args.toList ds p := hA0
  rw [Try.params3] at hA hval
  obtain ⟨v0, v1, v2, d0, d1, d2, p0, p1, p2, rfl, rfl, rfl, h0, h1, h2⟩ := trodAll_three hA
  obtain ⟨rfl, rfl⟩ := trodVars_none hV
  obtain ⟨x, rfl, rfl, rfl, wx⟩ := open_int Try.underlying3 (hval 0 3 v0 rfl rfl) h0
  obtain ⟨y, rfl, rfl, rfl, wy⟩ := open_int Try.underlying3 (hval 1 3 v1 rfl rfl) h1
  have k2 := h2
  have lt2 : ∀ x ∈ p2, x.block < W.heap.size := by obtain ⟨m, hm⟩ := k2; exact DataW.trod_lt m _ _ _ hm
  obtain ⟨ao, len, cap, rfl⟩ := okWide_slice Try.underlying22 (hval 2 22 v2 rfl rfl)
  have hls := open_opsP h2
  clear hA0 hval0
  have hwalk : Calls Try.prog 3 #[.int .i64 x, .int .i64 y, .slice ao len cap] W fun e W' => e = .returned (.bool true) ∧ Kept (fun _ => False) W W' := by
    by_cases hE : newE 20 x y = 0
    · have hE2 := hE
      unfold newE at hE2
      by_cases h1 : x < 0 ∨ y < 1 ∨ 64 < y
      · rw [if_pos h1] at hE2; cases hE2
      · rw [if_neg h1] at hE2
        by_cases h2 : ((20 : Nat) : Int) < x + y
        · rw [if_pos h2] at hE2; cases hE2
        · obtain ⟨fr, rfl⟩ : ∃ fr : Nat, x = fr := ⟨x.toNat, by omega⟩
          obtain ⟨n, rfl⟩ : ∃ n : Nat, y = n := ⟨y.toNat, by omega⟩
          exact pplays_ok W fr n (by omega) (by omega) _ _ hls
    · exact pplays_no W x y (bounds_i64 wx).2 _ hE
  refine hwalk.mono fun e W' ⟨he, hk⟩ => ?_
  subst he
  have bel := hk.below
  exact ⟨_, rfl, _, _, _, [], _, [], hW', trodAll_mk1 (shut_bool Try.underlying4 _), (trodAll_cons_mk (shut_int Try.underlying3 wx) (trodAll_cons_mk (shut_int Try.underlying3 wy) (trodAll_cons_mk (Below.trod Try.laidOutK (by kernel_rfl) (of_decide_eq_true (by kernel_rfl)) k2 bel lt2) trodAll_mk0))), rfl, bel.frame _, fun h => by cases h⟩

theorem poolPlays_holds : Rows.PoolPlaysSaid :=
  OpenClaim.holds_of_wide 3 Try.f3 rfl rfl rfl rfl rfl rfl rfl ⟨rfl, rfl, rfl, rfl, rfl⟩ rfl rfl rfl rfl rfl (by kernel_rfl) Try.func3 (by kernel_rfl)
    (of_decide_eq_true (by kernel_rfl)) (by unfold Func.isWrapper; first | (rw [if_pos (by decide +kernel)]; kernel_rfl) | (rw [if_neg (by decide +kernel)]; exact ⟨rfl, rfl⟩))
    (fun os started H enc _ => poolplays_lifted os started H enc)
end Go.Proofs.Ytnlcmgdeohbmoaa
