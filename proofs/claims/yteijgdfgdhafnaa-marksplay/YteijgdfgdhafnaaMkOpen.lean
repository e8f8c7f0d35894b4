/-
  MarksPlay answers true for every two numbers and every list of operations, and its arguments read afterwards as before. Conditions: none.
-/
import Derived.Test.YteijgdfgdhafnaaMkPlayW
import Derived.Test.YteijgdfgdhafnaaIOpen
namespace Go.Proofs.Yteijgdfgdhafnaa
open Go.ChangeShapes Go.WideShapes Go.ChangeAt Go.RowKit
set_option linter.unusedSimpArgs false
set_option linter.unusedVariables false
set_option maxRecDepth 100000

theorem Try.cells38 : Try.prog.cellsOf 38 = 2 := by kernel_rfl
theorem Try.fieldsOp : ∃ fs, Try.prog.underlying 38 = some (.struct fs) ∧ (fs.toList.map fun f => (f.type, f.offset)) = [(3, 0), (36, 1)] := ⟨_, Try.underlying38, by kernel_rfl⟩
section
variable {H : Type} {enc : TypeId × Value → H} {w : World} {base : Nat} {spare : Nat → Bool} {held : Bool} {fuel : Nat} {v : Value} {x : DataW H × List MemPlace}
theorem read_op {cs : List Value} (hl : cs.length = 2) (h : DataW.trod enc Try.prog w base spare held fuel 38 cs = some x) : ∃ y : Opv, cs = [.int .i64 y.n, .slice y.s.a y.s.n y.s.c] ∧ BsAt w y.s.v y.ws := by
  obtain ⟨fs, hu, hfs⟩ := Try.fieldsOp
  obtain ⟨xs, m, _, hxe, _, hxl, hel⟩ := DataW.trod_struct hu h
  have hsz : fs.size = 2 := by have := congrArg List.length hfs; simpa using this
  have get : ∀ (i : Nat) (t o : Nat), (fs.toList.map fun f => (f.type, f.offset))[i]? = some (t, o) → Try.prog.cellsOf t = 1 → o < 2 → ∃ y, xs[i]? = some y ∧ DataW.trod enc Try.prog w base spare held m t [cs.getD o (.int .i64 0)] = some y := by
    intro i t o hi hc ho
    simp only [List.getElem?_map, Option.map_eq_some_iff] at hi
    obtain ⟨f, hf, hfe⟩ := hi
    have hf' : fs[i]? = some f := by simpa using hf
    have h1 := hel i f hf'
    have ht : f.type = t := congrArg Prod.fst hfe
    have hof : f.offset = o := congrArg Prod.snd hfe
    rw [ht, hof, hc] at h1
    have hi5 : i < fs.size := (Array.getElem?_eq_some_iff.1 hf').1
    obtain ⟨y, hy⟩ : ∃ y, xs[i]? = some y := ⟨_, List.getElem?_eq_getElem (by omega)⟩
    rw [hy] at h1
    have hd : (cs.drop o).take 1 = [cs.getD o (.int .i64 0)] := by
      rw [List.drop_eq_getElem_cons (by omega), List.getD_eq_getElem?_getD, List.getElem?_eq_getElem (by omega)]
      rfl
    rw [hd] at h1
    exact ⟨y, hy, h1⟩
  obtain ⟨v0, v1, rfl⟩ : ∃ v0 v1, cs = [v0, v1] := two_of hl
  obtain ⟨y0, x0, g0⟩ := get 0 3 0 (by rw [hfs]; rfl) Try.cells3 (by decide)
  obtain ⟨y1, x1, g1⟩ := get 1 36 1 (by rw [hfs]; rfl) Try.cells36 (by decide)
  obtain ⟨k, e0, _, _⟩ := DataW.trod_int Try.underlying3 g0
  obtain ⟨s, l, b1, b2, _⟩ := read_ws g1
  simp at e0 b1
  subst e0
  subst b1
  exact ⟨⟨k, s, l⟩, rfl, b2.bs⟩
set_option maxRecDepth 100000 in
theorem read_ops (h : DataW.trod enc Try.prog w base spare held fuel 22 [v] = some x) : ∃ (s : Sl) (l : List Opv), v = .slice s.a s.n s.c ∧ OpsAt w s.v l := by
  rcases Go.Deep.open_slice Try.underlying22 h with ⟨hcs, hxe⟩ | ⟨a, len, cap, m, n, D, Pl, hcs, _, hl, hcm, hm, hxe, hx⟩
  · simp at hcs
    exact ⟨⟨none, 0, 0⟩, [], hcs, ⟨none, 0, rfl, Nat.zero_le _, fun h => absurd h (by simp)⟩, by simp, by simp⟩
  · simp at hcs
    subst hcs
    have hlm : len ≤ m := by rw [hm]; split <;> omega
    have each : ∀ k, k < len → ∃ (sb so : Nat) (y : Opv), a = ⟨sb, so, none⟩ ∧ Cells w sb (so + k * 2) [.int .i64 y.n, .slice y.s.a y.s.n y.s.c] ∧ BsAt w y.s.v y.ws := by
      intro k hk
      obtain ⟨cs', h1, h2⟩ := hx k (by omega)
      rw [Try.cells38] at h1
      obtain ⟨_, hlen, hcell⟩ := World.cells?_some h1
      obtain ⟨y, rfl, hop⟩ := read_op hlen h2
      obtain ⟨cs0, g1, g2⟩ := hx 0 (by omega)
      rw [Try.cells38] at g1
      obtain ⟨_, glen, gcell⟩ := World.cells?_some g1
      have h0 := gcell 0 (by omega)
      rw [List.getElem?_eq_getElem (by omega)] at h0
      obtain ⟨sb, so, sp⟩ := a
      have hsp : sp = none := by
        simp [Addr.add] at h0
        simpa using World.cell?_spot h0
      subst hsp
      refine ⟨sb, so, y, rfl, ?_, hop⟩
      intro j u hj
      have h3 := hcell j (by
        rcases Nat.lt_or_ge j 2 with h | h
        · exact h
        · rw [List.getElem?_eq_none (by simpa using h)] at hj; cases hj)
      rw [addr_add, addr_add] at h3
      rw [h3, hj]
    obtain ⟨f, hf⟩ : ∃ f : Nat → Opv, ∀ k, k < len → ∃ sb so, a = ⟨sb, so, none⟩ ∧ Cells w sb (so + k * 2) [.int .i64 (f k).n, .slice (f k).s.a (f k).s.n (f k).s.c] ∧ BsAt w (f k).s.v (f k).ws := by
      have : ∀ k, ∃ y : Opv, k < len → ∃ sb so, a = ⟨sb, so, none⟩ ∧ Cells w sb (so + k * 2) [.int .i64 y.n, .slice y.s.a y.s.n y.s.c] ∧ BsAt w y.s.v y.ws := by
        intro k
        by_cases hk : k < len
        · obtain ⟨sb, so, o, h1, h2, h3⟩ := each k hk
          exact ⟨o, fun _ => ⟨sb, so, h1, h2, h3⟩⟩
        · exact ⟨⟨0, ⟨none, 0, 0⟩, []⟩, fun h => absurd h hk⟩
      exact ⟨fun k => Classical.choose (this k), fun k hk => Classical.choose_spec (this k) hk⟩
    refine ⟨⟨some a, len, cap⟩, (List.range len).map f, rfl, ⟨some a, cap, by simp [Sl.v], by simpa using hl, fun h0 => ?_⟩, ?_, by simp; unfold maxLen at hcm; omega⟩
    · simp at h0
      obtain ⟨sb, so, rfl, _, _⟩ := hf 0 h0
      refine ⟨sb, so, rfl, enc_cells (fun k hk => ?_)⟩
      simp at hk
      obtain ⟨sb', so', e, h2, _⟩ := hf k hk
      cases e
      simpa [Opv.ent] using h2
    · intro y hy
      simp only [List.mem_map, List.mem_range] at hy
      obtain ⟨k, hk, rfl⟩ := hy
      obtain ⟨_, _, _, _, h3⟩ := hf k hk
      exact h3
end
theorem open_ops {H : Type} {enc : TypeId × Value → H} {w : World} {base : Nat} {spare : Nat → Bool} {held : Bool} {ao : Option Addr} {len cap : Nat} {d : DataW H} {p : List MemPlace}
    (h : DataW.Trod enc Try.prog w base spare held 22 (.slice ao len cap) d p) : ∃ l : List Opv, OpsAt w (.slice ao len cap) l := by
  obtain ⟨fuel, hf⟩ := h
  obtain ⟨s, l, e, h1⟩ := read_ops (v := .slice ao len cap) (x := (d, p)) (by simpa [Value.cells] using hf)
  exact ⟨l, by rw [e]; exact h1⟩
theorem plays_lifted (os : Os) (started : os.Started) (H : Type) (enc : TypeId × Value → H) :
    ReturnsInHanded {} Try.checked os 3 .any (Rows.marksPlaySpec.pre6 enc Try.prog Try.f3 Rows.marksPlayRow.domain false) (Rows.marksPlaySpec.post enc Try.prog Try.f3 false true false false) := by
  refine returnsInHanded_of_change (C := Try.checked) Try.ownK started (by kernel_rfl) Try.func3
    (ChangeSpec.witness6 (enc := enc) (C := Try.checked) false ⟨#[], #[.int .i64 0, .int .i64 0, .slice none 0 0], []⟩ 8 (by kernel_rfl) (by kernel_rfl) (by kernel_rfl) (by kernel_rfl)) ?_
  intro W base args ds gs before hval0 hW hcnd _
  have hval : ∀ (j : Nat) t v, Try.f3.params[j]? = some t → args[j]? = some v → Value.okWide Try.prog W .any base t v := hval0
  have hW' := hW
  obtain ⟨p, q, hA0, hV, rfl, hfz, hnd⟩ := hW
  have hA : DataW.TrodAll enc Try.prog W 0 (fun _ => true) true Try.f3.params.toList args.toList ds p := hA0
  rw [Try.params3] at hA hval
  obtain ⟨v0, v1, v2, d0, d1, d2, p0, p1, p2, rfl, rfl, rfl, h0, h1, h2⟩ := trodAll_three hA
  obtain ⟨rfl, rfl⟩ := trodVars_none hV
  obtain ⟨x, rfl, rfl, rfl, wx⟩ := open_int Try.underlying3 (hval 0 3 v0 rfl rfl) h0
  obtain ⟨y, rfl, rfl, rfl, wy⟩ := open_int Try.underlying3 (hval 1 3 v1 rfl rfl) h1
  have k2 := h2
  have lt2 : ∀ x ∈ p2, x.block < W.heap.size := by obtain ⟨m, hm⟩ := k2; exact DataW.trod_lt m _ _ _ hm
  obtain ⟨ao, len, cap, rfl⟩ := okWide_slice Try.underlying22 (hval 2 22 v2 rfl rfl)
  obtain ⟨ls, hls⟩ := open_ops h2
  clear hA0 hval0
  have hwalk : Calls Try.prog 3 #[.int .i64 x, .int .i64 y, .slice ao len cap] W fun e W' => e = .returned (.bool true) ∧ Kept (fun _ => False) W W' := by
    by_cases hx : mkNew x y = true
    · have hx2 := hx
      unfold mkNew at hx2
      rw [Bool.and_eq_true] at hx2
      have hb : 1 ≤ x ∧ x ≤ 64 := of_decide_eq_true hx2.1
      obtain ⟨m, rfl⟩ : ∃ m : Nat, x = m := ⟨x.toNat, by omega⟩
      exact plays_ok W m y (by omega) hx2.2 _ ls hls
    · exact plays_no W x y _ (Bool.eq_false_iff.2 hx)
  refine hwalk.mono fun e W' ⟨he, hk⟩ => ?_
  subst he
  have bel := hk.below
  exact ⟨_, rfl, _, _, _, [], _, [], hW', trodAll_mk1 (shut_bool Try.underlying4 _), (trodAll_cons_mk (shut_int Try.underlying3 wx) (trodAll_cons_mk (shut_int Try.underlying3 wy) (trodAll_cons_mk (Below.trod Try.laidOutK (by kernel_rfl) (of_decide_eq_true (by kernel_rfl)) k2 bel lt2) trodAll_mk0))), rfl, bel.frame _, fun h => by cases h⟩

theorem marksPlay_holds : Rows.MarksPlaySaid :=
  OpenClaim.holds_of_wide 3 Try.f3 rfl rfl rfl rfl rfl rfl rfl ⟨rfl, rfl, rfl, rfl, rfl⟩ rfl rfl rfl rfl rfl (by kernel_rfl) Try.func3 (by kernel_rfl)
    (of_decide_eq_true (by kernel_rfl)) (by unfold Func.isWrapper; first | (rw [if_pos (by decide +kernel)]; kernel_rfl) | (rw [if_neg (by decide +kernel)]; exact ⟨rfl, rfl⟩))
    (fun os started H enc _ => plays_lifted os started H enc)
end Go.Proofs.Yteijgdfgdhafnaa
