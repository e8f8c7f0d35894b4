/-
  With.
-/
import Derived.Test.YtnlcmgdeohbmoaaJ12
import Derived.Test.YtnlcmgdeohbmoaaJ10
namespace Go.Proofs.Ytnlcmgdeohbmoaa
open Go.RowKit Go.Shelf
set_option linter.unusedSimpArgs false
set_option linter.unusedVariables false
set_option maxRecDepth 100000

theorem run_arr62 {ρ : Operand → Value} {w : World} {dst : Option Tmp} {ty : TypeId} {x : Operand} {pos : String} {aft : Array Edge} {gd : Option (Nat × Bool)} {a : Option Addr} {n c : Nat} (hx : ρ x = .slice a n c) (hn : 64 ≤ n) :
    (execOp ρ ⟨dst, .sliceToArrayPointer 119 x, ty, pos, aft, gd⟩).run Try.prog w = .ok (.value (.pointer a)) w := by
  have h : ¬ n < 64 := by omega
  simp [execOp, hx, Instr.arrayAt, run_underlying Try.und62, h]
theorem run_load_cells {P : Program} {ρ : Operand → Value} {w : World} {dst : Option Tmp} {t ty : TypeId} {x : Operand} {pos : String} {aft : Array Edge} {gd : Option (Nat × Bool)} {b off n : Nat} {M : List Value}
    (ht : aggSize P t n) (hx : ρ x = .pointer (some ⟨b, off, none⟩)) (hM : M.length = n) (hc : Cells w b off M) :
    (execOp ρ ⟨dst, .load t x, ty, pos, aft, gd⟩).run P w = .ok (.value (.agg M.toArray)) w := by
  have hc := run_loadCells_list (P := P) w ⟨b, off, none⟩ M (fun j v hj => by rw [addr_add]; exact hc j v hj)
  rw [hM] at hc
  simp [execOp, Instr.loadAt, hx, Instr.sureAddr, loadVar, run_isAgg ht, run_sizeOf ht, hc]
theorem put_block {B b : List Nat} {C : List Value} {n k : Nat} (hl : B.length = 64 * n) (hk : k < n) (hb : b.length = 64) : put (BV B ++ C) (k * 64) (BV b) = BV (putB B k b) ++ C := by
  have h1 : (BV B).length = 64 * n := by rw [BV_length, hl]
  have h2 : (BV b).length = 64 := by rw [BV_length, hb]
  unfold put putB
  rw [h2, Nat.mul_comm k 64, List.take_append_of_le_length (by omega), List.drop_append_of_le_length (by omega), BV_append, BV_append, BV_take, BV_drop]
  simp
theorem withE_take {n : Nat} {l : List Wr} {k : Nat} (hk : k < l.length) (h : withE n (l.take k) = 0) : withE n l = withE n (l.drop k) := by
  have := withE_append n (l.take k) (l.drop k)
  rw [List.take_append_drop, if_pos h] at this
  exact this
theorem withE_step {n : Nat} {l : List Wr} {k : Nat} (hk : k < l.length) (h : withE n (l.take k) = 0) : withE n l = if ¬ (0 ≤ l[k].blk ∧ l[k].blk < n) then 41 else if l[k].B.length ≠ 64 then 42 else withE n (l.drop (k + 1)) := by
  rw [withE_take hk h, List.drop_eq_getElem_cons hk]
  rfl
theorem withE_take1 {n : Nat} {l : List Wr} {k : Nat} (hk : k < l.length) (h : withE n (l.take k) = 0) (h1 : 0 ≤ l[k].blk ∧ l[k].blk < n) (h2 : l[k].B.length = 64) : withE n (l.take (k + 1)) = 0 := by
  rw [List.take_add_one, withE_append, if_pos h, List.getElem?_eq_getElem hk]
  simp only [Option.toList, withE]
  rw [if_neg (by simpa using h1), if_neg (by simpa using h2)]
theorem withB_take1 {B : List Nat} {l : List Wr} {k : Nat} (hk : k < l.length) : withB B (l.take (k + 1)) = putB (withB B (l.take k)) l[k].blk.toNat l[k].B := by
  rw [List.take_add_one, withB_append, List.getElem?_eq_getElem hk]
  rfl
theorem wr_get {l : List Wv} {k : Nat} (hk : k < l.length) : (l.map Wv.wr)[k]'(by simpa using hk) = ⟨l[k].blk, l[k].B⟩ := by simp [Wv.wr]
/-- What With answers. -/
def WithIs (w' : World) (d' : Value) (n : Nat) (B : List Nat) (l : List Wr) : Prop := (withE n l = 0 → DkAt w' d' n (withB B l)) ∧ (withE n l ≠ 0 → d' = .pointer none)

end Go.Proofs.Ytnlcmgdeohbmoaa

/-
  The order's own functions: New, Put, Get, Delete, Len, Clone; of an order, and of none.
-/
namespace Go.Proofs.Ytnlcmgdeohbmoaa
open Go.RowKit Go.Shelf
set_option linter.unusedSimpArgs false
set_option linter.unusedVariables false

theorem built0P : Try.prog.built 112 [] = some #[.slice none 0 0] := by kernel_rfl
theorem r_build0P {ρ : Operand → Value} {w : World} {dst : Option Tmp} {ty : TypeId} {pos : String} {aft : Array Edge} {gd : Option (Nat × Bool)} : (execOp ρ ⟨dst, .build 112 #[], ty, pos, aft, gd⟩).run Try.prog w = .ok (.value (.agg #[.slice none 0 0])) w := by
  have hr := run_build (P := Try.prog) w 112 #[] _ (by simpa using built0P)
  simp [execOp, hr]
set_option maxHeartbeats 400000 in
theorem new_atP (w : World) : Calls Try.prog 32 #[] w fun e w' => e = .returned (.pointer (some ⟨w.heap.size, 0, none⟩)) ∧ MapP w' w.heap.size (.slice none 0 0) [] ∧ Kept (fun _ => False) w w' := by
  go_enter Try.func32, Try.ntmps32
  go_wp2_with (with_reducible refine stop_build 112 ?_)
  refine hide ?_
  refine wpList_run rfl r_build0P ?_
  refine aw_box (v := .agg #[.slice none 0 0]) rfl ?_
  intro w1 hb1 hk1 hz1
  have HZ := hide hz1
  clear hz1
  simp only [put_lit, List.set_cons_succ, List.set_cons_zero]
  go_wp2
  go_ret
  exact ⟨rfl, ⟨hb1, World.ownsRow_nil _ _ _ _, List.Pairwise.nil⟩, hk1⟩

theorem own_valP {l : List EntP} {C : List Value} (i : Nat) (h : i < l.length) : ((encP l ++ C).drop (i * 65 + 1)).take 64 = BV l[i].2.B ∧ i * 65 + 1 + 64 ≤ (encP l ++ C).length := by
  have hl := encP_length l
  refine ⟨?_, by rw [List.length_append]; omega⟩
  rw [List.drop_append_of_le_length (by omega), List.take_append_of_le_length (by rw [List.length_drop]; omega)]
  exact encP_val l i h
theorem own_keyP {w : World} {l : List EntP} {g : Nat} {C : List Value} (hb : Blk w g (encP l ++ C) 109) (i : Nat) (h : i < l.length) : w.cell? ⟨g, i * 65, none⟩ = some (Value.int .i64 (l[i].1)) := by
  have hl := encP_length l
  rw [hb.cell, List.getElem?_append_left (by omega)]
  exact encP_key l i h

/-- What a change of an order leaves. -/
def StepP (w w' : World) (p : Nat) (v : Value) (l' : List EntP) : Prop :=
  ∃ v', MapP w' p v' l' ∧ Kept (footM p v) w w' ∧ (∀ k, footM p v' k → footM p v k ∨ w.heap.size ≤ k)

set_option maxHeartbeats 1000000 in
theorem put_nilP (w : World) (k : Int) (x : Bk) : Calls Try.prog 34 #[.pointer none, (Value.int .i64 (k)), .agg (BV x.B).toArray] w fun e w' => e = .returned (.bool false) ∧ Kept (fun _ => False) w w' := by
  go_enter Try.func34, Try.ntmps34
  go_wp2
  go_ret
  exact ⟨rfl, Kept.alloc _ _ _⟩

theorem put_pair (Z : List Value) (v : Value) (M : List Value) (h : Z.length = M.length + 1) : put (put Z 0 [v]) 1 M = v :: M := by
  cases Z with
  | nil => simp at h
  | cons z Z =>
    have h : Z.length = M.length := by simpa using h
    simp [put, h]; omega
theorem built2P (x : EntP) {M : List Value} (hM : M = BV x.2.B) {w : World} {ρ : Operand → Value} {dst : Option Tmp} {ty : TypeId} {pos : String} {aft : Array Edge} {gd : Option (Nat × Bool)} {a b : Operand} (ha : ρ a = .int .i64 x.1) (hb : ρ b = .agg M.toArray) :
    (execOp ρ ⟨dst, .build 109 #[(0, a), (1, b)], ty, pos, aft, gd⟩).run Try.prog w = .ok (.value (.agg (cellsP x).toArray)) w := by
  obtain ⟨i0, hi0, hz0, hs0, hb0⟩ := info_parts Try.info109
  have hpl : ∀ (fields : Array Field), Try.prog.underlying 109 = some (.struct fields) → fields.toList.mapM (fun f => (Try.prog.info? f.type).map fun i => (f.offset, i.size)) = some [(0, 1), (1, 64)] := by
    intro fields hf
    rw [Try.underlying109] at hf
    cases hf
    kernel_rfl
  subst hM
  have h := BVk_length x.2
  have hr := run_build_two (v1 := .int .i64 x.1) (v2 := .agg (BV x.2.B).toArray) (M1 := [.int .i64 x.1]) (M2 := BV x.2.B) (w := w) (dst := dst) (ty := ty) (pos := pos) (aft := aft) (gd := gd) hi0 hz0 Try.underlying109 (hpl _ Try.underlying109) ha hb rfl rfl rfl h.symm (by show 0 + 1 ≤ 65; omega) (by rw [h]; show 1 + 64 ≤ 65; omega)
  rw [put_pair _ _ _ (by rw [h]; rfl)] at hr
  exact hr

section
variable {ρ : Operand → Value} {w : World} {dst : Option Tmp} {ty : TypeId} {pos : String} {aft : Array Edge} {gd : Option (Nat × Bool)} {x y z : Operand}
theorem r_call3 {f : FuncId} {u v t : Value} {t1 t2 t3 : TypeId} {fn : Func} {c : Code} (hf : Try.prog.funcs[f]? = some fn) (hn : (fn.name == "runtime.NumGoroutine") = false) (hb : fn.body = some c) (hfv : ρ (.func f) = .func (.func f) #[] #[]) (hx : ρ x = u) (hy : ρ y = v) (hz : ρ z = t) :
    (execOp ρ ⟨dst, .call { callee := .value (.func f), args := #[x, y, z], argTypes := #[t1, t2, t3] }, ty, pos, aft, gd⟩).run Try.prog w = .ok (.enter f #[u, v, t]) w := by
  have h := enters_of hf hn hb #[u, v, t] w
  simp [execOp, resolve, hfv, hx, hy, hz, Deferred.ofValue, invoke, h]
theorem r_nilP {a : Addr} (hx : ρ x = .pointer (some a)) : (execOp ρ ⟨dst, .nilCheck x, ty, pos, aft, gd⟩).run Try.prog w = .ok (.value (.pointer (some a))) w := by
  go_simp
theorem r_fMP {b : Nat} (hx : ρ x = .pointer (some ⟨b, 0, none⟩)) : (execOp ρ ⟨dst, .fieldAddr 112 x 0, ty, pos, aft, gd⟩).run Try.prog w = .ok (.value (.pointer (some ⟨b, 0, none⟩))) w := by
  go_simp
theorem r_ldMP {b : Nat} {v : Value} (hx : ρ x = .pointer (some ⟨b, 0, none⟩)) (hb : Blk w b [v] 112) : (execOp ρ ⟨dst, .load 110 x, ty, pos, aft, gd⟩).run Try.prog w = .ok (.value v) w := by
  have hc : w.cell? ⟨b, 0, none⟩ = some v := hb.cell 0
  go_simp
theorem r_stMP {b : Nat} {v : Value} {ao : Option Addr} {l c : Nat} (hx : ρ x = .pointer (some ⟨b, 0, none⟩)) (hy : ρ y = .slice ao l c) (hb : Blk w b [v] 112) : (execOp ρ ⟨dst, .store 110 x y, ty, pos, aft, gd⟩).run Try.prog w = .ok .skip (w.setCell ⟨b, 0, none⟩ (.slice ao l c)) := by
  have hc : w.cell? ⟨b, 0, none⟩ = some v := hb.cell 0
  have hf : w.frozen? ⟨b, 0, none⟩ = false := hb.frozen 0
  go_simp
end
theorem put_appendL (A C M : List Value) (o : Nat) (h : o + M.length ≤ A.length) : put (A ++ C) o M = put A o M ++ C := by
  unfold put
  rw [List.take_append_of_le_length (by omega), List.drop_append_of_le_length (by omega)]
  simp only [List.append_assoc]
set_option maxRecDepth 100000 in
set_option maxHeartbeats 2000000 in
theorem put_atP (w : World) (p : Nat) (v : Value) (l : List EntP) (k : Int) (x : Bk) (h : MapP w p v l) (hl : l.length ≤ 1000000) :
    Calls Try.prog 34 #[.pointer (some ⟨p, 0, none⟩), .int .i64 k, .agg (BV x.B).toArray] w fun e w' => e = .returned (.bool (!hasK ltI l k)) ∧ StepP w w' p v (putK ltI l k x) := by
  have H1 := hide (fun (w' : World) (hk : Kept (fun _ => False) w w') => find_atP w' p v l k (h.kept hk (fun h => h) (fun _ _ h => h)) hl)
  have hsd := h.srt.put strictI k x
  have hxl := BVk_length x
  have hx1 := BV_one x.B
  cases hh : hasK ltI l k with
  | true =>
    have hlt := hasK_lt hh
    have hkey := hasK_key strictI hh
    have hput : putK ltI l k x = l.set (posK ltI l k) (k, x) := by simp [putK, hh]
    rw [hput] at hsd ⊢
    have HS := hide hsd
    rw [hh] at H1
    have HM := hide h
    have Hn := hide (ownsRow_blk_ne h.own h.blk (by decide))
    rcases ownsRow_blk h.own with ⟨_, h0, _⟩ | ⟨g, cap, C, rfl, hb, hnc, hcm, hC⟩
    · omega
    have henc := encP_set l (posK ltI l k) hlt x
    rw [hkey] at henc
    have hfit := (own_valP (C := C) (posK ltI l k) hlt).2
    have hfit2 : posK ltI l k * 65 + 1 + 64 ≤ (encP l).length := by rw [encP_length]; omega
    have HFit := hide hfit
    have HFit2 := hide hfit2
    have HE := hide henc
    have HB := hide hb
    have HC := hide hC
    have hgw : g < w.heap.size := hb.lt
    clear h hh hput hsd hkey henc hb hC hfit hfit2
    generalize posK ltI l k = a at *
    obtain ⟨M, hM⟩ : ∃ M, M = BV x.B := ⟨_, rfl⟩
    rw [← hM] at hxl hx1 HE ⊢
    have HX := hide hxl
    have HX1 := hide hx1
    clear hM hxl hx1
    have hcm2 := hcm
    unfold maxLen at hcm
    go_enter Try.func34, Try.ntmps34
    go_wp2_with (first
      | ((with_reducible refine aw_box (v := .agg M.toArray) rfl ?_); intro w1 hb1 hk1 hz1; have HB1 := hide hb1; have HK1 := hide hk1; clear hb1 hk1 hz1)
      | fail)
    go_wp2_with fail
    refine (H1.out _ HK1.out).mono ?_
    rintro e w2 ⟨rfl, hk⟩
    have HK2 := hide (HK1.out.trans hk (fun _ _ h => h))
    have c0 : w2.cell? ⟨p, 0, none⟩ = some (.slice (some ⟨g, 0, none⟩) l.length cap) := (HM.out.kept HK2.out (fun h => h) (fun _ _ h => h)).blk.cell 0
    have HB2 := hide (HK2.out.blk HB.out (fun h => h))
    have HX2 := hide (hk.blk HB1.out (fun h => h))
    clear hk
    simp only [put_lit, List.set_cons_succ, List.set_cons_zero]
    go_wp2
    refine region_tail 6 Try.mixed (by kernel_rfl) ?_
    intro w5 hk5 hz5
    simp only [List.take_succ_cons, List.take_zero, List.drop_succ_cons, List.drop_zero]
    have HK5 := hide (HK2.out.trans hk5 (fun _ _ h => h))
    have HB5 := hide (hk5.blk HB2.out (fun h => h))
    have hX5 := hk5.blk HX2.out (fun h => h)
    have HC5 : Hid (Cells w5 w.heap.size 0 M) := hide (by
      have h := hX5.cells 0 64
      rwa [List.drop_zero, List.take_of_length_le (by have : (Value.agg M.toArray).cells.toList = M := rfl; rw [this, HX.out]; omega)] at h)
    clear c0
    have c0 : w5.cell? ⟨p, 0, none⟩ = some (.slice (some ⟨g, 0, none⟩) l.length cap) := (HM.out.kept HK5.out (fun h => h) (fun _ _ h => h)).blk.cell 0
    clear hk5 hz5 hX5
    still_step
    still_step
    still_step
    still_step
    still_step
    refine wpStill_run rfl (run_load_cells Try.agg79 rfl HX.out HC5.out) ?_
    refine wpStill_nil ?_
    simp only [put_lit, List.set_cons_succ, List.set_cons_zero]
    go_wp2_with ((with_reducible refine aw_store (M := M) Try.agg79 rfl rfl HX.out HX1.out HB5.out HFit.out ?_); intro w3 hw3 hk3 hz3; have HW3 := hide hw3; have HK3 := hide hk3; clear hw3 hk3 hz3)
    go_ret
    have hb3 := HW3.out
    rw [put_appendL _ _ _ _ (by rw [HX.out]; exact HFit2.out), ← HE.out] at hb3
    refine ⟨rfl, .slice (some ⟨g, 0, none⟩) l.length cap, ⟨HK3.out.blk (HK5.out.blk HM.out.blk (fun h => h)) (fun e => Hn.out (by rw [e]; rfl)), ?_, HS.out⟩, ?_, fun _ h => .inl h⟩
    · unfold OwnP
      rw [List.length_set]
      exact ownsRow_of hb3 (by rw [encP_length, List.length_set]) hnc hcm2 HC.out
    · exact (HK5.out.mono (T := footM p (.slice (some ⟨g, 0, none⟩) l.length cap)) (fun _ _ h => h.elim)).trans HK3.out (fun j hj h => .inr (by rw [h]; rfl))
  | false =>
    have hput : putK ltI l k x = insK l (posK ltI l k) (k, x) := by simp [putK, hh]
    have hle := posK_le ltI l k
    rw [hput] at hsd ⊢
    have HS := hide hsd
    rw [hh] at H1
    have HM := hide h
    have Hn := hide (ownsRow_blk_ne h.own h.blk (by decide))
    obtain ⟨i0, hi0, hz0, hs0, hb0⟩ := info_parts Try.info109
    have Hi0 := hide hi0
    have Hz0 := hide hz0
    have Hs0 := hide hs0
    have HCl := hide (cellsP_length (k, x))
    generalize posK ltI l k = a at *
    obtain ⟨M, hM⟩ : ∃ M, M = BV x.B := ⟨_, rfl⟩
    rw [← hM] at hxl hx1 ⊢
    have HBV := hide hM
    have HX := hide hxl
    obtain ⟨N, hN⟩ : ∃ N, N = cellsP (k, x) := ⟨_, rfl⟩
    rw [← hN] at HCl
    have HN := hide hN
    clear h hh hput hsd hi0 hz0 hs0 hb0 hM hxl hx1 hN
    go_enter Try.func34, Try.ntmps34
    go_wp2_with (first
      | ((with_reducible refine aw_box (v := .agg M.toArray) rfl ?_); intro w1 hb1 hk1 hz1; have HB1 := hide hb1; have HK1 := hide hk1; clear hb1 hk1 hz1)
      | fail)
    go_wp2_with fail
    refine (H1.out _ HK1.out).mono ?_
    rintro e w2 ⟨rfl, hk⟩
    have hk2 := HK1.out.trans hk (fun _ _ h => h)
    have HX2 := hide (hk.blk HB1.out (fun h => h))
    have hM2 := HM.out.kept hk2 (fun h => h) (fun _ _ h => h)
    have c0 : w2.cell? ⟨p, 0, none⟩ = some v := hM2.blk.cell 0
    have HM2 := hide hM2
    have HK2 := hide hk2
    clear hM2 hk hk2
    simp only [put_lit, List.set_cons_succ, List.set_cons_zero]
    go_wp2
    have hpw : p < w.heap.size := HM.out.blk.lt
    clear c0
    refine hold_frame (p := fun fr => Code.wp Try.prog _ _ fr _) ?_
    intro fr hfr
    have e0 : fr.eval (.tmp 0) = .pointer (some ⟨p, 0, none⟩) := by rw [hfr.out]; rfl
    have e1 : fr.eval (.tmp 1) = .int .i64 k := by rw [hfr.out]; rfl
    have e5 : fr.eval (.tmp 5) = .pointer (some ⟨w.heap.size, 0, none⟩) := by rw [hfr.out]; rfl
    have e7 : fr.eval (.tmp 7) = .int .i64 (a : Nat) := by rw [hfr.out]; rfl
    have hts : fr.tmps.size = 39 := by rw [hfr.out]; rfl
    refine region_S0 13 Try.mixed ?_
    intro w0 hkw hheap
    have hM0 := HM2.out.kept hkw (fun h => h) (fun _ _ h => h)
    have hX0 : Cells w0 w.heap.size 0 M := by
      have h := (hkw.blk HX2.out (fun h => h)).cells 0 64
      rwa [List.drop_zero, List.take_of_length_le (by have : (Value.agg M.toArray).cells.toList = M := rfl; rw [this, HX.out]; omega)] at h
    have HM0 := hide hM0
    have HX0 := hide hX0
    have hnp : ∀ U, Kept (fun j => v.ownBlock = some j) w0 U → Blk U p [v] 112 := fun U hU => hU.blk HM0.out.blk Hn.out
    have hnx : ∀ U, Kept (fun j => v.ownBlock = some j) w0 U → Cells U w.heap.size 0 M := fun U hU => hU.cells HX0.out (fun h => by have := ownsRow_lt HM.out.own _ h; omega)
    have hS0 : Kept (fun j => v.ownBlock = some j) w0 w0 := Kept.refl _ w0
    refine ⟨Kept (fun j => v.ownBlock = some j) w0, ?_⟩
    refine tkS 0 26 (v := .pointer (some ⟨p, 0, none⟩)) hS0 rfl rfl (by kernel_rfl) (by kernel_rfl) (by kernel_rfl) (by kernel_rfl) (wanted_none rfl) (fun _ _ _ h => h) (fun U hU => r_move (by simp [eval_put_ne, eval_put_eq, size_put, hts, e0])) ?_
    refine tkS 1 27 (v := .pointer (some ⟨p, 0, none⟩)) hS0 rfl rfl (by kernel_rfl) (by kernel_rfl) (by kernel_rfl) (by kernel_rfl) (wanted_none rfl) (fun _ _ _ h => h) (fun U hU => r_move (by simp [eval_put_ne, eval_put_eq, size_put, hts, e0])) ?_
    refine tkS 2 28 (v := .pointer (some ⟨p, 0, none⟩)) hS0 rfl rfl (by kernel_rfl) (by kernel_rfl) (by kernel_rfl) (by kernel_rfl) (wanted_none rfl) (fun _ _ _ h => h) (fun U hU => r_nilP (by simp [eval_put_ne, eval_put_eq, size_put, hts])) ?_
    refine tkS 3 29 (v := .pointer (some ⟨p, 0, none⟩)) hS0 rfl rfl (by kernel_rfl) (by kernel_rfl) (by kernel_rfl) (by kernel_rfl) (wanted_none rfl) (fun _ _ _ h => h) (fun U hU => r_fMP (by simp [eval_put_ne, eval_put_eq, size_put, hts])) ?_
    refine tkS 4 30 (v := v) hS0 rfl rfl (by kernel_rfl) (by kernel_rfl) (by kernel_rfl) (by kernel_rfl) (wanted_none rfl) (fun _ _ _ h => h) (fun U hU => r_ldMP (by simp [eval_put_ne, eval_put_eq, size_put, hts]) (hnp U hU)) ?_
    refine tkS 5 31 (v := .int .i64 (a : Nat)) hS0 rfl rfl (by kernel_rfl) (by kernel_rfl) (by kernel_rfl) (by kernel_rfl) (wanted_none rfl) (fun _ _ _ h => h) (fun U hU => r_move (by simp [eval_put_ne, eval_put_eq, size_put, hts, e7])) ?_
    refine tkS 6 32 (v := .int .i64 k) hS0 rfl rfl (by kernel_rfl) (by kernel_rfl) (by kernel_rfl) (by kernel_rfl) (wanted_none rfl) (fun _ _ _ h => h) (fun U hU => r_move (by simp [eval_put_ne, eval_put_eq, size_put, hts, e1])) ?_
    refine tkS 7 33 (v := .agg M.toArray) hS0 rfl rfl (by kernel_rfl) (by kernel_rfl) (by kernel_rfl) (by kernel_rfl) (wanted_none rfl) (fun _ _ _ h => h) (fun U hU => run_load_cells Try.agg79 (by simp [eval_put_ne, eval_put_eq, size_put, hts, e5]) HX.out (hnx U hU)) ?_
    refine tkS 8 34 (v := .agg N.toArray) hS0 rfl rfl (by kernel_rfl) (by kernel_rfl) (by kernel_rfl) (by kernel_rfl) (wanted_none rfl) (fun _ _ _ h => h) (fun U hU => by rw [HN.out]; exact built2P (k, x) HBV.out (by simp [eval_put_ne, eval_put_eq, size_put, hts]) (by simp [eval_put_ne, eval_put_eq, size_put, hts])) ?_
    refine oneVS 9 35 (v := .slice (some ⟨w0.heap.size, 0, none⟩) 1 1) (by kernel_rfl) rfl rfl (wanted_none rfl) (run_buildSlice_one (M := N) Try.underlying110 Hi0.out Hz0.out (by rw [HCl.out]; exact Hs0.out) (by rw [HCl.out]; omega) (by rw [HCl.out]; omega) (.inl (by simp [eval_put_ne, eval_put_eq, size_put, hts]))) (Kept.alloc _ _ _) ?_
    have hb3 := Blk.new w0 N 109
    have hk3 : Kept (fun _ => False) w0 (w0.alloc (.cells N.toArray 109)) := Kept.alloc _ _ _
    generalize w0.alloc (.cells N.toArray 109) = w3 at hb3 hk3
    have hM3 := HM0.out.kept hk3 (fun h => h) (fun _ _ h => h)
    have HM3 := hide hM3
    refine oneCS 10 36 (by kernel_rfl) rfl rfl (wanted_none rfl) (r_call3 Try.func54 (by kernel_rfl) rfl rfl (by simp [eval_put_ne, eval_put_eq, size_put, hts]) (by simp [eval_put_ne, eval_put_eq, size_put, hts]) (by simp [eval_put_ne, eval_put_eq, size_put, hts])) (ins_atP w3 v l a w0.heap.size (k, x) hM3.own hle (by rw [← HN.out]; exact hb3) (fun e => by have := ownsRow_lt HM0.out.own _ e; omega) hl) ?_
    rintro e w4 ⟨v', rfl, hO4, hk4, hv4⟩
    have hkS : Kept (fun j => v.ownBlock = some j) w0 w4 := (hk3.mono (fun _ _ h => h.elim)).trans hk4 (fun _ _ h => h)
    refine ⟨_, rfl, hkS, ?_⟩
    have hb4 : Blk w4 p [v] 112 := hk4.blk HM3.out.blk Hn.out
    have HB4 := hide hb4
    refine oneVS 11 37 (v := .pointer (some ⟨p, 0, none⟩)) (by kernel_rfl) rfl rfl (wanted_none rfl) (r_nilP (by simp [eval_put_ne, eval_put_eq, size_put, hts])) hkS ?_
    refine oneVS 12 38 (v := .pointer (some ⟨p, 0, none⟩)) (by kernel_rfl) rfl rfl (wanted_none rfl) (r_fMP (by simp [eval_put_ne, eval_put_eq, size_put, hts])) hkS ?_
    obtain ⟨ao, n3, cp3, rfl⟩ := ownsRow_slice3 hO4
    refine lastS (by kernel_rfl) rfl (wanted_none rfl) (r_stMP (ao := ao) (l := n3) (c := cp3) (by simp [eval_put_ne, eval_put_eq, size_put, hts]) (by simp [eval_put_ne, eval_put_eq, size_put, hts]) HB4.out) (by kernel_rfl) ?_
    have HO4 := hide hO4
    have HV4 := hide hv4
    have HK4 := hide hk4
    have HK3 := hide hk3
    have HK5 := hide (HK2.out.trans hkw (fun _ _ h => h))
    clear hO4 hv4 hk4 hk3 hb3 hM3 hkS hb4 hS0 hM0 hX0 hkw hheap hnp hnx
    rw [hfr.out]
    clear hfr e0 e1 e5 e7 hts
    simp only [put_lit, put_none, List.set_cons_succ, List.set_cons_zero]
    go_wp2
    go_ret
    have hk4 := HK4.out
    have hk24 := HK5.out.trans HK3.out (fun _ _ h => h)
    refine ⟨rfl, _, ⟨HB4.out.setCell 0 _, ownsRow_kept HO4.out (Kept.setCell (S := fun k => k = p) w4 ⟨p, 0, none⟩ _ rfl) (fun j hj e => ?_), HS.out⟩, ?_, ?_⟩
    · rcases HV4.out with h | ⟨g, h, hg⟩
      · rw [h] at hj
        exact Hn.out (by rw [hj, e])
      · rw [h] at hj
        cases hj
        have := HM3.out.blk.lt
        omega
    · exact ((hk24.mono (T := footM p v) (fun _ _ h => h.elim)).trans hk4 (fun j hj h => .inr h)).trans (Kept.setCell (S := fun k => k = p) w4 ⟨p, 0, none⟩ _ rfl) (fun j hj h => .inl h)
    · rintro j (h | h)
      · exact .inl (.inl h)
      · rcases HV4.out with h' | ⟨g, h', hg⟩
        · rw [h'] at h
          exact .inl (.inr h)
        · rw [h'] at h
          cases h
          have := hk24.size
          exact .inr (by omega)

end Go.Proofs.Ytnlcmgdeohbmoaa
