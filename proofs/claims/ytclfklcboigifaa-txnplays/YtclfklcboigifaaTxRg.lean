/-
  The document's books: what is changed of them.
-/
import Derived.Test.YtclfklcboigifaaTxRr
namespace Go.Proofs.Ytclfklcboigifaa
open Go.RowKit Go.Shelf
set_option linter.unusedSimpArgs false
set_option linter.unusedVariables false
set_option maxRecDepth 100000

section
variable {P : Program} {md : Region.Mode} {ops : Array Oper} {Q : Exit → Act → World → Prop} {S : World → Prop} {m fuel : Nat} {listed : Array Bool} {a : Act} {w w' : World}
theorem oneKS (i : Nat) {oi : Oper} (hr : Region.ready md ops listed = [i]) (hi : ops[i]? = some oi) (hd : oi.dst = none) (hw : Region.wanted oi (yielded ops a.tmps) = true) (hrun : (execOp a.eval oi).run P w = .ok .skip w') (hS : S w')
    (h : wpAnyM P md ops Q S m fuel (listed.setIfInBounds i true) a w') : wpAnyM P md ops Q S m (fuel + 1) listed a w := by
  refine oneS i hr ?_
  unfold wpOp
  simp only [hi, hw, if_true]
  refine .inl ?_
  unfold Oper.wp
  rw [hrun]
  refine ⟨fun _ => hS, ?_⟩
  rw [hd]
  exact h
end
section
variable {ρ : Operand → Value} {w : World} {dst : Option Tmp} {ty : TypeId} {pos : String} {aft : Array Edge} {gd : Option (Nat × Bool)} {x y z : Operand}
theorem r_fK0 {b : Nat} (hx : ρ x = .pointer (some ⟨b, 0, none⟩)) : (execOp ρ ⟨dst, .fieldAddr 30 x 0, ty, pos, aft, gd⟩).run Try.prog w = .ok (.value (.pointer (some ⟨b, 0, none⟩))) w := by
  go_simp
theorem r_fK1 {b : Nat} (hx : ρ x = .pointer (some ⟨b, 0, none⟩)) : (execOp ρ ⟨dst, .fieldAddr 30 x 1, ty, pos, aft, gd⟩).run Try.prog w = .ok (.value (.pointer (some ⟨b, 1, none⟩))) w := by
  go_simp
theorem r_fK2 {b : Nat} (hx : ρ x = .pointer (some ⟨b, 0, none⟩)) : (execOp ρ ⟨dst, .fieldAddr 30 x 2, ty, pos, aft, gd⟩).run Try.prog w = .ok (.value (.pointer (some ⟨b, 2, none⟩))) w := by
  go_simp
theorem r_fX1 {b o : Nat} (hx : ρ x = .pointer (some ⟨b, o, none⟩)) : (execOp ρ ⟨dst, .fieldAddr 57 x 1, ty, pos, aft, gd⟩).run Try.prog w = .ok (.value (.pointer (some ⟨b, o + 1, none⟩))) w := by
  go_simp
theorem r_ldTS {p : Addr} {v : Value} (hx : ρ x = .pointer (some p)) (hc : w.cell? p = some v) : (execOp ρ ⟨dst, .load 28 x, ty, pos, aft, gd⟩).run Try.prog w = .ok (.value v) w := by
  go_simp
theorem r_ldWS {p : Addr} {v : Value} (hx : ρ x = .pointer (some p)) (hc : w.cell? p = some v) : (execOp ρ ⟨dst, .load 33 x, ty, pos, aft, gd⟩).run Try.prog w = .ok (.value v) w := by
  go_simp
theorem r_ixT {b off len cap : Nat} (i : Nat) {kk : IntKind} (hx : ρ x = .slice (some ⟨b, off, none⟩) len cap) (hy : ρ y = .int kk i) (hi : i < len) :
    (execOp ρ ⟨dst, .indexAddr 28 x y, ty, pos, aft, gd⟩).run Try.prog w = .ok (.value (.pointer (some ⟨b, off + i * 2, none⟩))) w := by
  have h0 : ¬ ((i : Int) < 0) := by omega
  have h1 : (i : Int) < (len : Int) := by omega
  go_simp
theorem r_addK {i : Nat} (hx : ρ x = .int .i64 i) (hy : ρ y = .int .i64 1) (h : i ≤ 1000000) : (execOp ρ ⟨dst, .binOp .add 3 x y 3, ty, pos, aft, gd⟩).run Try.prog w = .ok (.value (.int .i64 ((i + 1 : Nat) : Int))) w := by
  have hw : IntKind.i64.wrap ((i : Int) + 1) = ((i + 1 : Nat) : Int) := by rw [IntKind.wrap_i64]; omega
  go_simp
theorem r_bs0T : (execOp ρ ⟨dst, .buildSlice 28 0 #[], ty, pos, aft, gd⟩).run Try.prog w = .ok (.value (.slice (some ⟨w.heap.size, 0, none⟩) 0 0)) (w.alloc (.cells #[] 57)) := by
  obtain ⟨i0, hi0, hz0, hs0, hb0⟩ := info_parts Try.info57
  simp [execOp, Instr.buildSlice, run_underlying Try.underlying28, sizeOf, typeInfo, hi0, fill_nil, newRow]
  rw [show Array.range 0 = #[] by simp [Array.range]]
  simp
/-- A transaction without writes is built. -/
theorem r_buildT {k : Int} (hx : ρ x = .int .i64 k) : (execOp ρ ⟨dst, .build 57 #[(0, x)], ty, pos, aft, gd⟩).run Try.prog w = .ok (.value (.agg #[.int .i64 k, .slice none 0 0])) w := by
  obtain ⟨i0, hi0, hz0, hs0, hb0⟩ := info_parts Try.info57
  have hp : ∃ fields, Try.prog.underlying 57 = some (.struct fields) ∧ fields.toList.mapM (fun f => (Try.prog.info? f.type).map fun i => (f.offset, i.size)) = some [(0, 1), (1, 1)] := ⟨_, Try.underlying57, by kernel_rfl⟩
  obtain ⟨fields, hu, hp⟩ := hp
  have hb : Try.prog.built 57 [(0, .int .i64 k)] = some #[.int .i64 k, .slice none 0 0] := by
    simp only [Program.built, hi0, hu, hz0, hp]
    rw [fill_one _ _ 0 (.int .i64 k) _ 0 [.int .i64 k] rfl (by simp) (by simp [Value.cells]), fill_nil]
    rfl
  have hr := run_build (P := Try.prog) w 57 #[(0, .int .i64 k)] _ (by simpa using hb)
  simp [execOp, hx, hr]
theorem r_ldB {b : Nat} {M : List Value} (hx : ρ x = .pointer (some ⟨b, 0, none⟩)) (hb : Blk w b M 30) (hl : M.length = 3) : (execOp ρ ⟨dst, .load 30 x, ty, pos, aft, gd⟩).run Try.prog w = .ok (.value (.agg M.toArray)) w := by
  have h := run_load_agg (ρ := ρ) (dst := dst) (ty := ty) (pos := pos) (aft := aft) (gd := gd) Try.agg30 hx hb (by omega)
  rw [List.drop_zero, List.take_of_length_le (by omega)] at h
  exact h
end
/-- A row of pairs of one's own. -/
def TxRow (w : World) (v : Value) (l : List EntB) : Prop := w.ownsRow 0 57 2 v l.length (encE ekB evB l)
theorem TxRow.nil0 {w : World} {g : Nat} (h : Blk w g [] 57) : TxRow w (.slice (some ⟨g, 0, none⟩) 0 0) [] := ownsRow_of (xs := []) (C := []) h rfl (Nat.le_refl _) (Nat.zero_le _) rfl
theorem run_append_none_any2 {P : Program} {w : World} (base : Nat) (t ty e : TypeId) (i : TypeInfo) (size : Nat) (ht : P.underlying t = some (.slice e)) (hi : P.info? e = some i) (c : Nat)
    (v : Value) (n : Nat) (xs : List Value) (hown : w.ownsRow base e size v n xs) : (Builtin.append_ #[t, t] ty #[v, .slice none 0 c]).run P w = .ok v w := run_append_none_any base t ty e i size ht hi c v n xs hown
theorem TxRow.app {w : World} {v u : Value} {l m : List EntB} (h : TxRow w v l) (hu : SrcEB w u m) (hl : l.length + m.length ≤ 20000) (ty : TypeId) :
    ∃ v' w', (Builtin.append_ #[28, 28] ty #[v, u]).run Try.prog w = .ok v' w' ∧ TxRow w' v' (l ++ m) ∧ Kept (fun k => v.ownBlock = some k) w w' ∧ (v'.ownBlock = v.ownBlock ∨ v'.ownBlock = some w.heap.size) := by
  obtain ⟨i0, hi, hz, hs, hb⟩ := info_parts Try.info57
  obtain ⟨ao, cap, rfl, hcap, hc⟩ := hu
  cases ao with
  | none =>
    have hm : m = [] := by
      rcases Nat.eq_zero_or_pos m.length with h0 | h0
      · exact List.eq_nil_of_length_eq_zero h0
      · obtain ⟨_, _, e, _⟩ := hc h0
        cases e
    subst hm
    exact ⟨_, _, run_append_none_any (P := Try.prog) 0 28 ty 57 i0 2 Try.underlying28 hi cap v _ _ h, by simpa using h, Kept.refl _ _, .inl rfl⟩
  | some a =>
    have hcl : ∀ j u, (encE ekB evB m)[j]? = some u → w.cell? (a.add j) = some u := by
      intro j u hj
      by_cases h0 : 0 < m.length
      · obtain ⟨sb, so, he, hcc⟩ := hc h0
        cases he
        rw [addr_add]
        exact hcc j u hj
      · obtain rfl : m = [] := List.eq_nil_of_length_eq_zero (by omega)
        simp [encE] at hj
    obtain ⟨v', w', hr, h2, h3, _, h5⟩ := run_append_own_at (P := Try.prog) w 0 28 ty 57 i0 _ 2 32 Try.underlying28 hi hz hs hb rfl (by decide) v l.length _ h a m.length cap (encE ekB evB m) (by rw [encE_length]) hcl enc_one (by unfold maxLen; omega) (by omega) (Nat.zero_le _)
    refine ⟨v', w', hr, ?_, Kept.of_grown h3, h5⟩
    unfold TxRow
    rw [encE_append, List.length_append]
    exact h2
theorem TxRow.kept {S : Nat → Prop} {w w' : World} {v : Value} {l : List EntB} (h : TxRow w v l) (hk : Kept S w w') (hv : ∀ k, v.ownBlock = some k → ¬ S k) : TxRow w' v l := ownsRow_kept h hk hv
theorem TxRow.sl {w : World} {v : Value} {l : List EntB} (h : TxRow w v l) : ∃ ao c, v = .slice ao l.length c := ownsRow_slice h
theorem run_loadVar {P : Program} {w : World} {t : TypeId} {n b : Nat} {L : List Value} {e : TypeId} (ht : aggSize P t n) (hb : Blk w b L e) (hl : L.length = n) : (loadVar t ⟨b, 0, none⟩).run P w = .ok (.agg L.toArray) w := by
  have hc := run_loadCells_list (P := P) w ⟨b, 0, none⟩ L (fun j v hj => by rw [addr_add, hb.cell, Nat.zero_add]; exact hj)
  rw [hl] at hc
  simp [loadVar, run_isAgg ht, run_sizeOf ht, hc]
theorem results_cb {P : Program} {fn : Func} {t u : Tmp} {ty : TypeId} {n b : Nat} {L : List Value} {e : TypeId} {tmps : Array Value} {w : World} {v : Value} (h : fn.results = #[.cell t ty, .tmp u]) (ht : aggSize P ty n) (hx : tmps.getD t undef = .pointer (some ⟨b, 0, none⟩)) (hb : Blk w b L e) (hl : L.length = n) (hu : tmps.getD u undef = v) :
    (results fn tmps).run P w = .ok (.tuple #[.agg L.toArray, v]) w := by
  have hv := run_loadVar (P := P) ht hb hl
  simp only [Array.getD_eq_getD_getElem?] at hx hu
  simp [results, h, hx, hv, hu, asAddr]
theorem results_cb3 {P : Program} {fn : Func} {t u x : Tmp} {ty : TypeId} {n b : Nat} {L : List Value} {e : TypeId} {tmps : Array Value} {w : World} {v v2 : Value} (h : fn.results = #[.cell t ty, .tmp u, .tmp x]) (ht : aggSize P ty n) (hx : tmps.getD t undef = .pointer (some ⟨b, 0, none⟩)) (hb : Blk w b L e) (hl : L.length = n) (hu : tmps.getD u undef = v) (hu2 : tmps.getD x undef = v2) :
    (results fn tmps).run P w = .ok (.tuple #[.agg L.toArray, v, v2]) w := by
  have hv := run_loadVar (P := P) ht hb hl
  simp only [Array.getD_eq_getD_getElem?] at hx hu hu2
  simp [results, h, hx, hv, hu, hu2, asAddr]

set_option maxHeartbeats 1000000 in
theorem rbegin_no (w : World) (n la : Int) (v : Value) (l : List EntB) (h : SrcEB w v l) (hl : 8 ≤ l.length) :
    Calls Try.prog 14 #[.agg #[.int .i64 n, .int .i64 la, v]] w fun e w' => e = .returned (.tuple #[.agg #[.int .i64 n, .int .i64 la, v], .int .i64 0, .int .i64 32]) ∧ Kept (fun _ => False) w w' := by
  obtain ⟨ao, cap, rfl⟩ := h.sl
  obtain ⟨i0, hi0, hz0, hs0, hb0⟩ := info_parts Try.info30
  have Hi0 := hide hi0
  have Hz0 := hide hz0
  have h8 : (8 : Int) ≤ (l.length : Int) := by omega
  clear h hi0 hz0 hs0 hb0
  generalize l.length = len at *
  go_enter Try.func14, Try.ntmps14
  go_wp2_with (first
    | ((with_reducible refine aw_box (t := 30) (v := .agg #[.int .i64 n, .int .i64 la, .slice ao len cap]) rfl ?_); intro w1 hb1 hk1 hz1; have HK1 := hide hk1; have HB1 := hide hb1; have Hz1 := hide hz1; clear hk1 hz1 hb1)
    | ((with_reducible refine aw_alloc (t := 30) (dst := some 2) Hi0.out Hz0.out ?_); intro w2 hw2 hk2 hz2; have HK2 := hide (HK1.out.trans hk2 (fun _ _ h => h)); have HB2 := hide (hk2.blk HB1.out (fun h => h)); have HW2 := hide hw2; have c2 : w2.cell? ⟨w.heap.size, 2, none⟩ = some (.slice ao len cap) := HB2.out.cell 2; have Hz2 := hide hz2; clear hz2 hw2 hk2)
    | ((with_reducible refine aw_load (M := [.int .i64 n, .int .i64 la, .slice ao len cap]) Try.agg30 rfl HB2.out (by simp [Value.cells]) rfl ?_))
    | ((with_reducible refine aw_store (M := [.int .i64 n, .int .i64 la, .slice ao len cap]) Try.agg30 rfl rfl rfl (by simp [Value.oneCell']) HW2.out (by simp [Value.cells]) ?_); intro w3 hw3 hk3 hz3; rw [put_whole _ _ (by simp [Value.cells])] at hw3; have HW3 := hide hw3; have HK3 := hide (HK2.out.trans hk3 (S := fun _ => False) (fun i hi h => by have := Hz1.out; omega)); clear hz3 hw3 hk3))
  refine bodyPost_ret (results_cb3 rfl Try.agg30 rfl HW3.out rfl rfl rfl) rfl ?_
  exact ⟨rfl, HK3.out⟩
set_option maxHeartbeats 4000000 in
theorem rbegin_row (w : World) (n la : Int) (v : Value) (l : List EntB) (h : SrcEB w v l) (hl : l.length < 8) (hla : 0 ≤ la ∧ la ≤ 1000000) (lb : Int) (hlb : la + 1 = lb) :
    Calls Try.prog 14 #[.agg #[.int .i64 n, .int .i64 la, v]] w fun e w' => ∃ v', e = .returned (.tuple #[.agg #[.int .i64 n, .int .i64 lb, v'], .int .i64 lb, .int .i64 0]) ∧ TxRow w' v' (l ++ [(lb, (⟨none, 0, 0⟩ : Sl))]) ∧ (∀ k, v'.ownBlock = some k → w.heap.size ≤ k) ∧ Kept (fun _ => False) w w' := by
  obtain ⟨ao, cap, rfl⟩ := h.sl
  have HS := hide h
  obtain ⟨i0, hi0, hz0, hs0, hb0⟩ := info_parts Try.info30
  have Hi0 := hide hi0
  have Hz0 := hide hz0
  obtain ⟨iX, hiX, hzX, hsX, hbX⟩ := info_parts Try.info57
  have HiX := hide hiX
  have HzX := hide hzX
  have HsX := hide hsX
  obtain ⟨iS, hiS, hzS, hsS, hbS⟩ := info_parts Try.info28
  have HiS := hide hiS
  have HsS := hide hsS
  have h8 : ¬ (8 : Int) ≤ (l.length : Int) := by omega
  have hw1 : IntKind.i64.wrap (la + 1) = lb := by rw [IntKind.wrap_i64] <;> omega
  clear h hi0 hz0 hs0 hb0 hiX hzX hsX hbX hiS hzS hsS hbS
  obtain ⟨len, hlen⟩ : ∃ len, len = l.length := ⟨_, rfl⟩
  rw [← hlen] at HS hl h8 ⊢
  have HLen := hide hlen
  clear hlen
  go_enter Try.func14, Try.ntmps14
  go_wp2_with (first
    | ((with_reducible refine aw_box (t := 30) (v := .agg #[.int .i64 n, .int .i64 la, .slice ao len cap]) rfl ?_); intro w1 hb1 hk1 hz1; have HK1 := hide hk1; have HB1 := hide hb1; have Hz1 := hide hz1; clear hk1 hz1 hb1)
    | ((with_reducible refine aw_alloc (t := 30) (dst := some 2) Hi0.out Hz0.out ?_); intro w1' hw2 hk2 hz2; have HK2' := hide (HK1.out.trans hk2 (fun _ _ h => h)); have HB2' := hide (hk2.blk HB1.out (fun h => h)); have HW2' : Hid (Blk w1' w1.heap.size [.int .i64 0, .int .i64 0, .slice none 0 0] 30) := hide hw2; have c2 : w1'.cell? ⟨w.heap.size, 2, none⟩ = some (.slice ao len cap) := HB2'.out.cell 2; have c1 : w1'.cell? ⟨w.heap.size, 1, none⟩ = some (.int .i64 la) := HB2'.out.cell 1; have f1 : w1'.frozen? ⟨w.heap.size, 1, none⟩ = false := HB2'.out.frozen 1; have Hz2 := hide hz2; clear hz2 hw2 hk2))
  have hbb : Blk (w1'.setCell ⟨w.heap.size, 1, none⟩ (.int .i64 lb)) w.heap.size [.int .i64 n, .int .i64 lb, .slice ao len cap] 30 := HB2'.out.setCell 1 (.int .i64 lb)
  have hkk := Kept.setCell (S := fun k => k = w.heap.size) w1' ⟨w.heap.size, 1, none⟩ (.int .i64 lb) rfl
  generalize w1'.setCell ⟨w.heap.size, 1, none⟩ (.int .i64 lb) = w2 at hbb hkk ⊢
  have HNe : Hid (w1.heap.size ≠ w.heap.size) := hide (by have := Hz1.out; omega)
  have HB2 := hide hbb
  have HW2 := hide (hkk.blk HW2'.out (fun e => HNe.out e))
  have HK2 := hide (HK2'.out.trans hkk (fun i hi h => by omega))
  have HSE := hide (HS.out.kept HK2.out)
  clear hbb hkk c1 c2 f1 HB2' HW2' HK2'
  refine hold_frame (p := fun fr => Code.wp Try.prog _ _ fr _) ?_
  intro fr hfr
  have e1 : fr.eval (.tmp 1) = .pointer (some ⟨w.heap.size, 0, none⟩) := by rw [hfr.out]; rfl
  have hts : fr.tmps.size = 27 := by rw [hfr.out]; rfl
  refine region_S0 10 Try.mixed ?_
  intro w0 hkw hheap
  have hB0 := hkw.blk HB2.out (fun h => h)
  have hS0 : Kept (fun _ => False) w0 w0 := Kept.refl _ w0
  have HSE0 := hide (HSE.out.kept hkw)
  have hsz0 : w2.heap.size ≤ w0.heap.size := hkw.size
  have hll : l.length < 8 := by have := HLen.out; omega
  refine ⟨Kept (fun _ => False) w0, ?_⟩
  refine tkS 1 15 (v := .pointer (some ⟨w.heap.size, 2, none⟩)) hS0 rfl rfl (by kernel_rfl) (by kernel_rfl) (by kernel_rfl) (by kernel_rfl) (wanted_none rfl) (fun _ _ _ h => h) (fun U hU => r_fK2 (by simp [eval_put_ne, eval_put_eq, size_put, hts, e1])) ?_
  refine tkS 2 16 (v := .slice ao len cap) hS0 rfl rfl (by kernel_rfl) (by kernel_rfl) (by kernel_rfl) (by kernel_rfl) (wanted_none rfl) (fun _ _ _ h => h) (fun U hU => r_ldTS (by simp [eval_put_ne, eval_put_eq, size_put, hts]) ((hU.blk hB0 (fun h => h)).cell 2)) ?_
  refine tkS 4 18 (v := .pointer (some ⟨w.heap.size, 1, none⟩)) hS0 rfl rfl (by kernel_rfl) (by kernel_rfl) (by kernel_rfl) (by kernel_rfl) (wanted_none rfl) (fun _ _ _ h => h) (fun U hU => r_fK1 (by simp [eval_put_ne, eval_put_eq, size_put, hts, e1])) ?_
  refine tkS 5 19 (v := .int .i64 lb) hS0 rfl rfl (by kernel_rfl) (by kernel_rfl) (by kernel_rfl) (by kernel_rfl) (wanted_none rfl) (fun _ _ _ h => h) (fun U hU => r_ldI (by simp [eval_put_ne, eval_put_eq, size_put, hts]) ((hU.blk hB0 (fun h => h)).cell 1)) ?_
  refine tkS 6 20 (v := .agg #[.int .i64 lb, .slice none 0 0]) hS0 rfl rfl (by kernel_rfl) (by kernel_rfl) (by kernel_rfl) (by kernel_rfl) (wanted_none rfl) (fun _ _ _ h => h) (fun U hU => r_buildT (by simp [eval_put_ne, eval_put_eq, size_put, hts])) ?_
  refine twoS 0 7 (by kernel_rfl) (stepVS 0 14 (v := .slice (some ⟨w0.heap.size, 0, none⟩) 0 0) rfl rfl (wanted_none rfl) (r_bs0T) (fun _ => hS0.trans (Kept.alloc _ _ _) (fun _ _ h => h)) ?_) (stepVS 7 21 (v := .slice (some ⟨w0.heap.size, 0, none⟩) 1 1) rfl rfl (wanted_none rfl) (run_buildSlice_one (M := [Value.int .i64 lb, .slice none 0 0]) Try.underlying28 HiX.out HzX.out HsX.out (by simp) (by simp) (.inl (by simp [eval_put_ne, eval_put_eq, size_put, hts]))) (fun _ => hS0.trans (Kept.alloc _ _ _) (fun _ _ h => h)) ?_)
  · skip
    have hb1 := Blk.new w0 [] 57
    rw [show (([] : List Value).toArray) = #[] from rfl] at hb1
    have hka1 : Kept (fun _ => False) w0 (w0.alloc (.cells #[] 57)) := Kept.alloc _ _ _
    have hsz1 : (w0.alloc (.cells #[] 57)).heap.size = w0.heap.size + 1 := by simp
    obtain ⟨g1, hg1⟩ : ∃ g, w0.heap.size = g := ⟨_, rfl⟩
    rw [hg1] at hb1 hsz1 ⊢
    generalize w0.alloc (.cells #[] 57) = u1 at hb1 hka1 hsz1 ⊢
    have hk1 := hS0.trans hka1 (fun _ _ h => h)
    have hr1 := TxRow.nil0 hb1
    have hge1 : w0.heap.size ≤ g1 := by rw [← hg1]; exact hS0.size
    obtain ⟨v2, u2, hrun2, hr2, hka2, hob2⟩ := hr1.app (HSE0.out.kept hk1) (by simp; omega) 28
    rw [List.nil_append] at hr2
    have hk2 : Kept (fun _ => False) w0 u2 := hk1.trans hka2 (fun j hj h => by simp [Value.ownBlock] at h; have := hge1; omega)
    have hn2 : ∀ j, v2.ownBlock = some j → w0.heap.size ≤ j := fun j hj => by
      rcases hob2 with h | h
      · rw [h] at hj; simp [Value.ownBlock] at hj; have := hge1; omega
      · rw [h] at hj; cases hj; exact hk1.size
    refine twoS 3 7 (by kernel_rfl) (stepVS 3 17 (v := v2) rfl rfl (wanted_none rfl) (r_app (by simp [eval_put_ne, eval_put_eq, size_put, hts]) (by simp [eval_put_ne, eval_put_eq, size_put, hts]) hrun2) (fun _ => hk2) ?_) (stepVS 7 21 (v := .slice (some ⟨u1.heap.size, 0, none⟩) 1 1) rfl rfl (wanted_none rfl) (run_buildSlice_one (M := [Value.int .i64 lb, .slice none 0 0]) Try.underlying28 HiX.out HzX.out HsX.out (by simp) (by simp) (.inl (by simp [eval_put_ne, eval_put_eq, size_put, hts]))) (fun _ => hk1.trans (Kept.alloc _ _ _) (fun _ _ h => h)) ?_)
    · skip
      refine oneS 7 (by kernel_rfl) (stepVS 7 21 (v := .slice (some ⟨u2.heap.size, 0, none⟩) 1 1) rfl rfl (wanted_none rfl) (run_buildSlice_one (M := [Value.int .i64 lb, .slice none 0 0]) Try.underlying28 HiX.out HzX.out HsX.out (by simp) (by simp) (.inl (by simp [eval_put_ne, eval_put_eq, size_put, hts]))) (fun _ => hk2.trans (Kept.alloc _ _ _) (fun _ _ h => h)) ?_)
      have hb3 := Blk.new u2 [Value.int .i64 lb, .slice none 0 0] 57
      have hka3 : Kept (fun _ => False) u2 (u2.alloc (.cells [Value.int .i64 lb, .slice none 0 0].toArray 57)) := Kept.alloc _ _ _
      obtain ⟨g3, hg3⟩ : ∃ g, u2.heap.size = g := ⟨_, rfl⟩
      rw [hg3] at hb3 ⊢
      generalize u2.alloc (.cells [Value.int .i64 lb, .slice none 0 0].toArray 57) = u3 at hb3 hka3 ⊢
      have hk3 := hk2.trans hka3 (fun _ _ h => h)
      have hr3 := hr2.kept hka3 (fun _ _ h => h)
      have hse4 : SrcEB u3 (.slice (some ⟨g3, 0, none⟩) 1 1) [(lb, (⟨none, 0, 0⟩ : Sl))] := ⟨_, 1, rfl, Nat.le_refl _, fun _ => ⟨_, 0, rfl, by have := hb3.cells 0 2; simpa [encE] using this⟩⟩
      obtain ⟨v4, u4, hrun4, hr4, hka4, hob4⟩ := hr3.app hse4 (by simp; omega) 28
      have hk4 : Kept (fun _ => False) w0 u4 := hk3.trans hka4 (fun j hj h => by have := hn2 j h; omega)
      have hn4 : ∀ j, v4.ownBlock = some j → w0.heap.size ≤ j := fun j hj => by
        rcases hob4 with h | h
        · rw [h] at hj; exact hn2 j hj
        · rw [h] at hj; cases hj; exact hk3.size
      refine oneVS 8 22 (v := v4) (by kernel_rfl) rfl rfl (wanted_none rfl) (r_app (by simp [eval_put_ne, eval_put_eq, size_put, hts]) (by simp [eval_put_ne, eval_put_eq, size_put, hts]) hrun4) hk4 ?_
      refine tkS 9 23 (v := .pointer (some ⟨w.heap.size, 2, none⟩)) hk4 rfl rfl (by kernel_rfl) (by kernel_rfl) (by kernel_rfl) (by kernel_rfl) (wanted_none rfl) (fun _ _ _ h => h) (fun U hU => r_fK2 (by simp [eval_put_ne, eval_put_eq, size_put, hts, e1])) ?_
      obtain ⟨a4, c4, rfl⟩ := hr4.sl
      have hB8 := hk4.blk hB0 (fun h => h)
      refine lastS (by kernel_rfl) rfl (wanted_none rfl) (run_store_one (v := .slice a4 (l ++ [(lb, (⟨none, 0, 0⟩ : Sl))]).length c4) (off := 2) HiS.out HsS.out (by simp [eval_put_ne, eval_put_eq, size_put, hts]) (by simp [eval_put_ne, eval_put_eq, size_put, hts]) rfl rfl hB8 (by simp)) (by kernel_rfl) ?_
      have hb9 := hB8.setRow (List.set [Value.int .i64 n, .int .i64 lb, .slice ao len cap] 2 (.slice a4 (l ++ [(lb, (⟨none, 0, 0⟩ : Sl))]).length c4))
      have hk9 := Kept.setRow (S := fun k => k = w.heap.size) u4 w.heap.size (List.set [Value.int .i64 n, .int .i64 lb, .slice ao len cap] 2 (.slice a4 (l ++ [(lb, (⟨none, 0, 0⟩ : Sl))]).length c4)).toArray rfl
      generalize u4.setRow w.heap.size (List.set [Value.int .i64 n, .int .i64 lb, .slice ao len cap] 2 (.slice a4 (l ++ [(lb, (⟨none, 0, 0⟩ : Sl))]).length c4)).toArray = w9 at hb9 hk9 ⊢
      have hB9 : Blk w9 w.heap.size [.int .i64 n, .int .i64 lb, .slice a4 (l ++ [(lb, (⟨none, 0, 0⟩ : Sl))]).length c4] 30 := hb9
      have HB9 := hide hB9
      have hlt0 : w.heap.size < w0.heap.size := by have := HB2.out.lt; omega
      have HR9 := hide (hr4.kept hk9 (fun j hj h => by have := hn4 j hj; omega))
      have HN9 : Hid (∀ j, (Value.slice a4 (l ++ [(lb, (⟨none, 0, 0⟩ : Sl))]).length c4).ownBlock = some j → w.heap.size ≤ j) := hide (fun j hj => by have := hn4 j hj; omega)
      have hk29 : Kept (fun k => k = w.heap.size) w2 w9 := ((hkw.mono (T := fun k => k = w.heap.size) (fun _ _ h => h.elim)).trans hk4 (fun _ _ h => h.elim)).trans hk9 (fun _ _ h => h)
      have HK9 := hide (HK2.out.trans hk29 (fun i hi h => by omega))
      have HW9 := hide (hk29.blk HW2.out (fun e => HNe.out e))
      rw [hfr.out]
      clear hfr e1 hts hb9 hk9 hB9 hB8 hrun4 hka4 hob4 hr4 hk4 hn4 hk29 hlt0 hB0 hS0 HSE0 hsz0
      simp only [put_lit, put_none, List.set_cons_succ, List.set_cons_zero]
      go_wp2
      refine hold_frame (p := fun fr => Code.wp Try.prog _ _ fr _) ?_
      intro fr hfr
      have e1 : fr.eval (.tmp 1) = .pointer (some ⟨w.heap.size, 0, none⟩) := by rw [hfr.out]; rfl
      have e2 : fr.eval (.tmp 2) = .pointer (some ⟨w1.heap.size, 0, none⟩) := by rw [hfr.out]; rfl
      have hts : fr.tmps.size = 27 := by rw [hfr.out]; rfl
      refine region_S 99 (fun U => Blk U w.heap.size [.int .i64 n, .int .i64 lb, .slice a4 (l ++ [(lb, (⟨none, 0, 0⟩ : Sl))]).length c4] 30) Try.mixed ?_
      intro w10 hkx hheap
      have hS10 := hkx.blk HB9.out (fun h => h)
      have hW10 := hkx.blk HW9.out (fun h => h)
      refine tkS 0 24 (v := .agg [.int .i64 n, .int .i64 lb, .slice a4 (l ++ [(lb, (⟨none, 0, 0⟩ : Sl))]).length c4].toArray) hS10 rfl rfl (by kernel_rfl) (by kernel_rfl) (by kernel_rfl) (by kernel_rfl) (wanted_none rfl) (fun _ _ _ h => h) (fun U hU => r_ldB (by simp [eval_put_ne, eval_put_eq, size_put, hts, e1]) hU rfl) ?_
      refine tkS 1 25 (v := .pointer (some ⟨w.heap.size, 1, none⟩)) hS10 rfl rfl (by kernel_rfl) (by kernel_rfl) (by kernel_rfl) (by kernel_rfl) (wanted_none rfl) (fun _ _ _ h => h) (fun U hU => r_fK1 (by simp [eval_put_ne, eval_put_eq, size_put, hts, e1])) ?_
      refine tkS 2 26 (v := .int .i64 lb) hS10 rfl rfl (by kernel_rfl) (by kernel_rfl) (by kernel_rfl) (by kernel_rfl) (wanted_none rfl) (fun _ _ _ h => h) (fun U hU => r_ldI (by simp [eval_put_ne, eval_put_eq, size_put, hts]) (hU.cell 1)) ?_
      have hk11 := Kept.setRow (S := fun k => k = w1.heap.size) w10 w1.heap.size (List.take 0 [Value.int .i64 0, .int .i64 0, .slice none 0 0] ++ [Value.int .i64 n, .int .i64 lb, .slice a4 (l ++ [(lb, (⟨none, 0, 0⟩ : Sl))]).length c4] ++ List.drop (0 + 3) [Value.int .i64 0, .int .i64 0, .slice none 0 0]).toArray rfl
      have hW11 := hW10.setRow (List.take 0 [Value.int .i64 0, .int .i64 0, .slice none 0 0] ++ [Value.int .i64 n, .int .i64 lb, .slice a4 (l ++ [(lb, (⟨none, 0, 0⟩ : Sl))]).length c4] ++ List.drop (0 + 3) [Value.int .i64 0, .int .i64 0, .slice none 0 0])
      refine oneKS 3 (by kernel_rfl) rfl rfl (wanted_none rfl) (run_store_agg Try.agg30 (M := [.int .i64 n, .int .i64 lb, .slice a4 (l ++ [(lb, (⟨none, 0, 0⟩ : Sl))]).length c4]) (by simp [eval_put_ne, eval_put_eq, size_put, hts, e2]) (by simp [eval_put_ne, eval_put_eq, size_put, hts]) rfl (by simp [Value.oneCell']) hW10 (by simp [Value.cells])) (hk11.blk hS10 (fun e => HNe.out e.symm)) ?_
      generalize w10.setRow w1.heap.size (List.take 0 [Value.int .i64 0, .int .i64 0, .slice none 0 0] ++ [Value.int .i64 n, .int .i64 lb, .slice a4 (l ++ [(lb, (⟨none, 0, 0⟩ : Sl))]).length c4] ++ List.drop (0 + 3) [Value.int .i64 0, .int .i64 0, .slice none 0 0]).toArray = w11 at hk11 hW11 ⊢
      have hS11 := hk11.blk hS10 (fun e => HNe.out e.symm)
      refine tkS 4 3 (v := .int .i64 lb) hS11 rfl rfl (by kernel_rfl) (by kernel_rfl) (by kernel_rfl) (by kernel_rfl) (wanted_none rfl) (fun _ _ _ h => h) (fun U hU => r_assign (by simp [eval_put_ne, eval_put_eq, size_put, hts])) ?_
      refine tkS 5 4 (v := .int .i64 0) hS11 rfl rfl (by kernel_rfl) (by kernel_rfl) (by kernel_rfl) (by kernel_rfl) (wanted_none rfl) (fun _ _ _ h => h) (fun U hU => r_assign rfl) ?_
      refine doneS (by kernel_rfl) ?_
      have hW12 : Blk w11 w1.heap.size [.int .i64 n, .int .i64 lb, .slice a4 (l ++ [(lb, (⟨none, 0, 0⟩ : Sl))]).length c4] 30 := hW11
      have HW12 := hide hW12
      have HK12 := hide ((HK9.out.trans hkx (fun _ _ h => h)).trans hk11 (fun i hi h => by have := Hz1.out; omega))
      have HR12 := hide ((HR9.out.kept hkx (fun _ _ h => h)).kept hk11 (fun j hj h => by subst h; exact ownsRow_blk_ne (HR9.out.kept hkx (fun _ _ h => h)) hW10 (by decide) hj))
      rw [hfr.out]
      clear hfr e1 e2 hts hS10 hW10 hS11 hW11 hW12 hk11 hkx hheap
      try simp only [put_lit, put_none, List.set_cons_succ, List.set_cons_zero]
      go_wp2
      refine bodyPost_ret (results_cb3 rfl Try.agg30 rfl HW12.out rfl rfl rfl) rfl ?_
      exact ⟨_, rfl, HR12.out, HN9.out, HK12.out⟩
    · skip
      have hb5 := Blk.new u1 [Value.int .i64 lb, .slice none 0 0] 57
      have hka5 : Kept (fun _ => False) u1 (u1.alloc (.cells [Value.int .i64 lb, .slice none 0 0].toArray 57)) := Kept.alloc _ _ _
      obtain ⟨g5, hg5⟩ : ∃ g, u1.heap.size = g := ⟨_, rfl⟩
      rw [hg5] at hb5 ⊢
      generalize u1.alloc (.cells [Value.int .i64 lb, .slice none 0 0].toArray 57) = u5 at hb5 hka5 ⊢
      have hk5 := hk1.trans hka5 (fun _ _ h => h)
      have hr5 := hr1.kept hka5 (fun _ _ h => h)
      have hne5 : g5 ≠ g1 := by omega
      obtain ⟨v6, u6, hrun6, hr6, hka6, hob6⟩ := hr5.app (HSE0.out.kept hk5) (by simp; omega) 28
      rw [List.nil_append] at hr6
      have hk6 : Kept (fun _ => False) w0 u6 := hk5.trans hka6 (fun j hj h => by simp [Value.ownBlock] at h; have := hge1; omega)
      have hn6 : ∀ j, v6.ownBlock = some j → w0.heap.size ≤ j := fun j hj => by
        rcases hob6 with h | h
        · rw [h] at hj; simp [Value.ownBlock] at hj; have := hge1; omega
        · rw [h] at hj; cases hj; exact hk5.size
      have hc6 := hka6.blk hb5 (fun h => by simp [Value.ownBlock] at h; exact hne5 h.symm)
      refine oneS 3 (by kernel_rfl) (stepVS 3 17 (v := v6) rfl rfl (wanted_none rfl) (r_app (by simp [eval_put_ne, eval_put_eq, size_put, hts]) (by simp [eval_put_ne, eval_put_eq, size_put, hts]) hrun6) (fun _ => hk6) ?_)
      have hse7 : SrcEB u6 (.slice (some ⟨g5, 0, none⟩) 1 1) [(lb, (⟨none, 0, 0⟩ : Sl))] := ⟨_, 1, rfl, Nat.le_refl _, fun _ => ⟨_, 0, rfl, by have := hc6.cells 0 2; simpa [encE] using this⟩⟩
      obtain ⟨v7, u7, hrun7, hr7, hka7, hob7⟩ := hr6.app hse7 (by simp; omega) 28
      have hk7 : Kept (fun _ => False) w0 u7 := hk6.trans hka7 (fun j hj h => by have := hn6 j h; omega)
      have hn7 : ∀ j, v7.ownBlock = some j → w0.heap.size ≤ j := fun j hj => by
        rcases hob7 with h | h
        · rw [h] at hj; exact hn6 j hj
        · rw [h] at hj; cases hj; exact hk6.size
      refine oneVS 8 22 (v := v7) (by kernel_rfl) rfl rfl (wanted_none rfl) (r_app (by simp [eval_put_ne, eval_put_eq, size_put, hts]) (by simp [eval_put_ne, eval_put_eq, size_put, hts]) hrun7) hk7 ?_
      refine tkS 9 23 (v := .pointer (some ⟨w.heap.size, 2, none⟩)) hk7 rfl rfl (by kernel_rfl) (by kernel_rfl) (by kernel_rfl) (by kernel_rfl) (wanted_none rfl) (fun _ _ _ h => h) (fun U hU => r_fK2 (by simp [eval_put_ne, eval_put_eq, size_put, hts, e1])) ?_
      obtain ⟨a7, c7, rfl⟩ := hr7.sl
      have hB8 := hk7.blk hB0 (fun h => h)
      refine lastS (by kernel_rfl) rfl (wanted_none rfl) (run_store_one (v := .slice a7 (l ++ [(lb, (⟨none, 0, 0⟩ : Sl))]).length c7) (off := 2) HiS.out HsS.out (by simp [eval_put_ne, eval_put_eq, size_put, hts]) (by simp [eval_put_ne, eval_put_eq, size_put, hts]) rfl rfl hB8 (by simp)) (by kernel_rfl) ?_
      have hb9 := hB8.setRow (List.set [Value.int .i64 n, .int .i64 lb, .slice ao len cap] 2 (.slice a7 (l ++ [(lb, (⟨none, 0, 0⟩ : Sl))]).length c7))
      have hk9 := Kept.setRow (S := fun k => k = w.heap.size) u7 w.heap.size (List.set [Value.int .i64 n, .int .i64 lb, .slice ao len cap] 2 (.slice a7 (l ++ [(lb, (⟨none, 0, 0⟩ : Sl))]).length c7)).toArray rfl
      generalize u7.setRow w.heap.size (List.set [Value.int .i64 n, .int .i64 lb, .slice ao len cap] 2 (.slice a7 (l ++ [(lb, (⟨none, 0, 0⟩ : Sl))]).length c7)).toArray = w9 at hb9 hk9 ⊢
      have hB9 : Blk w9 w.heap.size [.int .i64 n, .int .i64 lb, .slice a7 (l ++ [(lb, (⟨none, 0, 0⟩ : Sl))]).length c7] 30 := hb9
      have HB9 := hide hB9
      have hlt0 : w.heap.size < w0.heap.size := by have := HB2.out.lt; omega
      have HR9 := hide (hr7.kept hk9 (fun j hj h => by have := hn7 j hj; omega))
      have HN9 : Hid (∀ j, (Value.slice a7 (l ++ [(lb, (⟨none, 0, 0⟩ : Sl))]).length c7).ownBlock = some j → w.heap.size ≤ j) := hide (fun j hj => by have := hn7 j hj; omega)
      have hk29 : Kept (fun k => k = w.heap.size) w2 w9 := ((hkw.mono (T := fun k => k = w.heap.size) (fun _ _ h => h.elim)).trans hk7 (fun _ _ h => h.elim)).trans hk9 (fun _ _ h => h)
      have HK9 := hide (HK2.out.trans hk29 (fun i hi h => by omega))
      have HW9 := hide (hk29.blk HW2.out (fun e => HNe.out e))
      rw [hfr.out]
      clear hfr e1 hts hb9 hk9 hB9 hB8 hrun7 hka7 hob7 hr7 hk7 hn7 hk29 hlt0 hB0 hS0 HSE0 hsz0
      simp only [put_lit, put_none, List.set_cons_succ, List.set_cons_zero]
      go_wp2
      refine hold_frame (p := fun fr => Code.wp Try.prog _ _ fr _) ?_
      intro fr hfr
      have e1 : fr.eval (.tmp 1) = .pointer (some ⟨w.heap.size, 0, none⟩) := by rw [hfr.out]; rfl
      have e2 : fr.eval (.tmp 2) = .pointer (some ⟨w1.heap.size, 0, none⟩) := by rw [hfr.out]; rfl
      have hts : fr.tmps.size = 27 := by rw [hfr.out]; rfl
      refine region_S 99 (fun U => Blk U w.heap.size [.int .i64 n, .int .i64 lb, .slice a7 (l ++ [(lb, (⟨none, 0, 0⟩ : Sl))]).length c7] 30) Try.mixed ?_
      intro w10 hkx hheap
      have hS10 := hkx.blk HB9.out (fun h => h)
      have hW10 := hkx.blk HW9.out (fun h => h)
      refine tkS 0 24 (v := .agg [.int .i64 n, .int .i64 lb, .slice a7 (l ++ [(lb, (⟨none, 0, 0⟩ : Sl))]).length c7].toArray) hS10 rfl rfl (by kernel_rfl) (by kernel_rfl) (by kernel_rfl) (by kernel_rfl) (wanted_none rfl) (fun _ _ _ h => h) (fun U hU => r_ldB (by simp [eval_put_ne, eval_put_eq, size_put, hts, e1]) hU rfl) ?_
      refine tkS 1 25 (v := .pointer (some ⟨w.heap.size, 1, none⟩)) hS10 rfl rfl (by kernel_rfl) (by kernel_rfl) (by kernel_rfl) (by kernel_rfl) (wanted_none rfl) (fun _ _ _ h => h) (fun U hU => r_fK1 (by simp [eval_put_ne, eval_put_eq, size_put, hts, e1])) ?_
      refine tkS 2 26 (v := .int .i64 lb) hS10 rfl rfl (by kernel_rfl) (by kernel_rfl) (by kernel_rfl) (by kernel_rfl) (wanted_none rfl) (fun _ _ _ h => h) (fun U hU => r_ldI (by simp [eval_put_ne, eval_put_eq, size_put, hts]) (hU.cell 1)) ?_
      have hk11 := Kept.setRow (S := fun k => k = w1.heap.size) w10 w1.heap.size (List.take 0 [Value.int .i64 0, .int .i64 0, .slice none 0 0] ++ [Value.int .i64 n, .int .i64 lb, .slice a7 (l ++ [(lb, (⟨none, 0, 0⟩ : Sl))]).length c7] ++ List.drop (0 + 3) [Value.int .i64 0, .int .i64 0, .slice none 0 0]).toArray rfl
      have hW11 := hW10.setRow (List.take 0 [Value.int .i64 0, .int .i64 0, .slice none 0 0] ++ [Value.int .i64 n, .int .i64 lb, .slice a7 (l ++ [(lb, (⟨none, 0, 0⟩ : Sl))]).length c7] ++ List.drop (0 + 3) [Value.int .i64 0, .int .i64 0, .slice none 0 0])
      refine oneKS 3 (by kernel_rfl) rfl rfl (wanted_none rfl) (run_store_agg Try.agg30 (M := [.int .i64 n, .int .i64 lb, .slice a7 (l ++ [(lb, (⟨none, 0, 0⟩ : Sl))]).length c7]) (by simp [eval_put_ne, eval_put_eq, size_put, hts, e2]) (by simp [eval_put_ne, eval_put_eq, size_put, hts]) rfl (by simp [Value.oneCell']) hW10 (by simp [Value.cells])) (hk11.blk hS10 (fun e => HNe.out e.symm)) ?_
      generalize w10.setRow w1.heap.size (List.take 0 [Value.int .i64 0, .int .i64 0, .slice none 0 0] ++ [Value.int .i64 n, .int .i64 lb, .slice a7 (l ++ [(lb, (⟨none, 0, 0⟩ : Sl))]).length c7] ++ List.drop (0 + 3) [Value.int .i64 0, .int .i64 0, .slice none 0 0]).toArray = w11 at hk11 hW11 ⊢
      have hS11 := hk11.blk hS10 (fun e => HNe.out e.symm)
      refine tkS 4 3 (v := .int .i64 lb) hS11 rfl rfl (by kernel_rfl) (by kernel_rfl) (by kernel_rfl) (by kernel_rfl) (wanted_none rfl) (fun _ _ _ h => h) (fun U hU => r_assign (by simp [eval_put_ne, eval_put_eq, size_put, hts])) ?_
      refine tkS 5 4 (v := .int .i64 0) hS11 rfl rfl (by kernel_rfl) (by kernel_rfl) (by kernel_rfl) (by kernel_rfl) (wanted_none rfl) (fun _ _ _ h => h) (fun U hU => r_assign rfl) ?_
      refine doneS (by kernel_rfl) ?_
      have hW12 : Blk w11 w1.heap.size [.int .i64 n, .int .i64 lb, .slice a7 (l ++ [(lb, (⟨none, 0, 0⟩ : Sl))]).length c7] 30 := hW11
      have HW12 := hide hW12
      have HK12 := hide ((HK9.out.trans hkx (fun _ _ h => h)).trans hk11 (fun i hi h => by have := Hz1.out; omega))
      have HR12 := hide ((HR9.out.kept hkx (fun _ _ h => h)).kept hk11 (fun j hj h => by subst h; exact ownsRow_blk_ne (HR9.out.kept hkx (fun _ _ h => h)) hW10 (by decide) hj))
      rw [hfr.out]
      clear hfr e1 e2 hts hS10 hW10 hS11 hW11 hW12 hk11 hkx hheap
      try simp only [put_lit, put_none, List.set_cons_succ, List.set_cons_zero]
      go_wp2
      refine bodyPost_ret (results_cb3 rfl Try.agg30 rfl HW12.out rfl rfl rfl) rfl ?_
      exact ⟨_, rfl, HR12.out, HN9.out, HK12.out⟩
  · skip
    have hb8 := Blk.new w0 [Value.int .i64 lb, .slice none 0 0] 57
    have hka8 : Kept (fun _ => False) w0 (w0.alloc (.cells [Value.int .i64 lb, .slice none 0 0].toArray 57)) := Kept.alloc _ _ _
    obtain ⟨g8, hg8⟩ : ∃ g, w0.heap.size = g := ⟨_, rfl⟩
    rw [hg8] at hb8 ⊢
    generalize w0.alloc (.cells [Value.int .i64 lb, .slice none 0 0].toArray 57) = u8 at hb8 hka8 ⊢
    have hk8 := hS0.trans hka8 (fun _ _ h => h)
    refine oneS 0 (by kernel_rfl) (stepVS 0 14 (v := .slice (some ⟨u8.heap.size, 0, none⟩) 0 0) rfl rfl (wanted_none rfl) (r_bs0T) (fun _ => hk8.trans (Kept.alloc _ _ _) (fun _ _ h => h)) ?_)
    have hb9 := Blk.new u8 [] 57
    rw [show (([] : List Value).toArray) = #[] from rfl] at hb9
    have hka9 : Kept (fun _ => False) u8 (u8.alloc (.cells #[] 57)) := Kept.alloc _ _ _
    have hsz9 : (u8.alloc (.cells #[] 57)).heap.size = u8.heap.size + 1 := by simp
    obtain ⟨g9, hg9⟩ : ∃ g, u8.heap.size = g := ⟨_, rfl⟩
    rw [hg9] at hb9 hsz9 ⊢
    generalize u8.alloc (.cells #[] 57) = u9 at hb9 hka9 hsz9 ⊢
    have hk9 := hk8.trans hka9 (fun _ _ h => h)
    have hr9 := TxRow.nil0 hb9
    have hge9 : w0.heap.size ≤ g9 := by rw [← hg9]; exact hk8.size
    have hc9 := hka9.blk hb8 (fun h => h)
    have hne9 : g8 ≠ g9 := by have := hb8.lt; omega
    obtain ⟨v10, u10, hrun10, hr10, hka10, hob10⟩ := hr9.app (HSE0.out.kept hk9) (by simp; omega) 28
    rw [List.nil_append] at hr10
    have hk10 : Kept (fun _ => False) w0 u10 := hk9.trans hka10 (fun j hj h => by simp [Value.ownBlock] at h; have := hge9; omega)
    have hn10 : ∀ j, v10.ownBlock = some j → w0.heap.size ≤ j := fun j hj => by
      rcases hob10 with h | h
      · rw [h] at hj; simp [Value.ownBlock] at hj; have := hge9; omega
      · rw [h] at hj; cases hj; exact hk9.size
    have hc10 := hka10.blk hc9 (fun h => by simp [Value.ownBlock] at h; exact hne9 h.symm)
    refine oneS 3 (by kernel_rfl) (stepVS 3 17 (v := v10) rfl rfl (wanted_none rfl) (r_app (by simp [eval_put_ne, eval_put_eq, size_put, hts]) (by simp [eval_put_ne, eval_put_eq, size_put, hts]) hrun10) (fun _ => hk10) ?_)
    have hse11 : SrcEB u10 (.slice (some ⟨g8, 0, none⟩) 1 1) [(lb, (⟨none, 0, 0⟩ : Sl))] := ⟨_, 1, rfl, Nat.le_refl _, fun _ => ⟨_, 0, rfl, by have := hc10.cells 0 2; simpa [encE] using this⟩⟩
    obtain ⟨v11, u11, hrun11, hr11, hka11, hob11⟩ := hr10.app hse11 (by simp; omega) 28
    have hk11 : Kept (fun _ => False) w0 u11 := hk10.trans hka11 (fun j hj h => by have := hn10 j h; omega)
    have hn11 : ∀ j, v11.ownBlock = some j → w0.heap.size ≤ j := fun j hj => by
      rcases hob11 with h | h
      · rw [h] at hj; exact hn10 j hj
      · rw [h] at hj; cases hj; exact hk10.size
    refine oneVS 8 22 (v := v11) (by kernel_rfl) rfl rfl (wanted_none rfl) (r_app (by simp [eval_put_ne, eval_put_eq, size_put, hts]) (by simp [eval_put_ne, eval_put_eq, size_put, hts]) hrun11) hk11 ?_
    refine tkS 9 23 (v := .pointer (some ⟨w.heap.size, 2, none⟩)) hk11 rfl rfl (by kernel_rfl) (by kernel_rfl) (by kernel_rfl) (by kernel_rfl) (wanted_none rfl) (fun _ _ _ h => h) (fun U hU => r_fK2 (by simp [eval_put_ne, eval_put_eq, size_put, hts, e1])) ?_
    obtain ⟨a11, c11, rfl⟩ := hr11.sl
    have hB8 := hk11.blk hB0 (fun h => h)
    refine lastS (by kernel_rfl) rfl (wanted_none rfl) (run_store_one (v := .slice a11 (l ++ [(lb, (⟨none, 0, 0⟩ : Sl))]).length c11) (off := 2) HiS.out HsS.out (by simp [eval_put_ne, eval_put_eq, size_put, hts]) (by simp [eval_put_ne, eval_put_eq, size_put, hts]) rfl rfl hB8 (by simp)) (by kernel_rfl) ?_
    have hb9 := hB8.setRow (List.set [Value.int .i64 n, .int .i64 lb, .slice ao len cap] 2 (.slice a11 (l ++ [(lb, (⟨none, 0, 0⟩ : Sl))]).length c11))
    have hk9 := Kept.setRow (S := fun k => k = w.heap.size) u11 w.heap.size (List.set [Value.int .i64 n, .int .i64 lb, .slice ao len cap] 2 (.slice a11 (l ++ [(lb, (⟨none, 0, 0⟩ : Sl))]).length c11)).toArray rfl
    generalize u11.setRow w.heap.size (List.set [Value.int .i64 n, .int .i64 lb, .slice ao len cap] 2 (.slice a11 (l ++ [(lb, (⟨none, 0, 0⟩ : Sl))]).length c11)).toArray = w9 at hb9 hk9 ⊢
    have hB9 : Blk w9 w.heap.size [.int .i64 n, .int .i64 lb, .slice a11 (l ++ [(lb, (⟨none, 0, 0⟩ : Sl))]).length c11] 30 := hb9
    have HB9 := hide hB9
    have hlt0 : w.heap.size < w0.heap.size := by have := HB2.out.lt; omega
    have HR9 := hide (hr11.kept hk9 (fun j hj h => by have := hn11 j hj; omega))
    have HN9 : Hid (∀ j, (Value.slice a11 (l ++ [(lb, (⟨none, 0, 0⟩ : Sl))]).length c11).ownBlock = some j → w.heap.size ≤ j) := hide (fun j hj => by have := hn11 j hj; omega)
    have hk29 : Kept (fun k => k = w.heap.size) w2 w9 := ((hkw.mono (T := fun k => k = w.heap.size) (fun _ _ h => h.elim)).trans hk11 (fun _ _ h => h.elim)).trans hk9 (fun _ _ h => h)
    have HK9 := hide (HK2.out.trans hk29 (fun i hi h => by omega))
    have HW9 := hide (hk29.blk HW2.out (fun e => HNe.out e))
    rw [hfr.out]
    clear hfr e1 hts hb9 hk9 hB9 hB8 hrun11 hka11 hob11 hr11 hk11 hn11 hk29 hlt0 hB0 hS0 HSE0 hsz0
    simp only [put_lit, put_none, List.set_cons_succ, List.set_cons_zero]
    go_wp2
    refine hold_frame (p := fun fr => Code.wp Try.prog _ _ fr _) ?_
    intro fr hfr
    have e1 : fr.eval (.tmp 1) = .pointer (some ⟨w.heap.size, 0, none⟩) := by rw [hfr.out]; rfl
    have e2 : fr.eval (.tmp 2) = .pointer (some ⟨w1.heap.size, 0, none⟩) := by rw [hfr.out]; rfl
    have hts : fr.tmps.size = 27 := by rw [hfr.out]; rfl
    refine region_S 99 (fun U => Blk U w.heap.size [.int .i64 n, .int .i64 lb, .slice a11 (l ++ [(lb, (⟨none, 0, 0⟩ : Sl))]).length c11] 30) Try.mixed ?_
    intro w10 hkx hheap
    have hS10 := hkx.blk HB9.out (fun h => h)
    have hW10 := hkx.blk HW9.out (fun h => h)
    refine tkS 0 24 (v := .agg [.int .i64 n, .int .i64 lb, .slice a11 (l ++ [(lb, (⟨none, 0, 0⟩ : Sl))]).length c11].toArray) hS10 rfl rfl (by kernel_rfl) (by kernel_rfl) (by kernel_rfl) (by kernel_rfl) (wanted_none rfl) (fun _ _ _ h => h) (fun U hU => r_ldB (by simp [eval_put_ne, eval_put_eq, size_put, hts, e1]) hU rfl) ?_
    refine tkS 1 25 (v := .pointer (some ⟨w.heap.size, 1, none⟩)) hS10 rfl rfl (by kernel_rfl) (by kernel_rfl) (by kernel_rfl) (by kernel_rfl) (wanted_none rfl) (fun _ _ _ h => h) (fun U hU => r_fK1 (by simp [eval_put_ne, eval_put_eq, size_put, hts, e1])) ?_
    refine tkS 2 26 (v := .int .i64 lb) hS10 rfl rfl (by kernel_rfl) (by kernel_rfl) (by kernel_rfl) (by kernel_rfl) (wanted_none rfl) (fun _ _ _ h => h) (fun U hU => r_ldI (by simp [eval_put_ne, eval_put_eq, size_put, hts]) (hU.cell 1)) ?_
    have hk11 := Kept.setRow (S := fun k => k = w1.heap.size) w10 w1.heap.size (List.take 0 [Value.int .i64 0, .int .i64 0, .slice none 0 0] ++ [Value.int .i64 n, .int .i64 lb, .slice a11 (l ++ [(lb, (⟨none, 0, 0⟩ : Sl))]).length c11] ++ List.drop (0 + 3) [Value.int .i64 0, .int .i64 0, .slice none 0 0]).toArray rfl
    have hW11 := hW10.setRow (List.take 0 [Value.int .i64 0, .int .i64 0, .slice none 0 0] ++ [Value.int .i64 n, .int .i64 lb, .slice a11 (l ++ [(lb, (⟨none, 0, 0⟩ : Sl))]).length c11] ++ List.drop (0 + 3) [Value.int .i64 0, .int .i64 0, .slice none 0 0])
    refine oneKS 3 (by kernel_rfl) rfl rfl (wanted_none rfl) (run_store_agg Try.agg30 (M := [.int .i64 n, .int .i64 lb, .slice a11 (l ++ [(lb, (⟨none, 0, 0⟩ : Sl))]).length c11]) (by simp [eval_put_ne, eval_put_eq, size_put, hts, e2]) (by simp [eval_put_ne, eval_put_eq, size_put, hts]) rfl (by simp [Value.oneCell']) hW10 (by simp [Value.cells])) (hk11.blk hS10 (fun e => HNe.out e.symm)) ?_
    generalize w10.setRow w1.heap.size (List.take 0 [Value.int .i64 0, .int .i64 0, .slice none 0 0] ++ [Value.int .i64 n, .int .i64 lb, .slice a11 (l ++ [(lb, (⟨none, 0, 0⟩ : Sl))]).length c11] ++ List.drop (0 + 3) [Value.int .i64 0, .int .i64 0, .slice none 0 0]).toArray = w11 at hk11 hW11 ⊢
    have hS11 := hk11.blk hS10 (fun e => HNe.out e.symm)
    refine tkS 4 3 (v := .int .i64 lb) hS11 rfl rfl (by kernel_rfl) (by kernel_rfl) (by kernel_rfl) (by kernel_rfl) (wanted_none rfl) (fun _ _ _ h => h) (fun U hU => r_assign (by simp [eval_put_ne, eval_put_eq, size_put, hts])) ?_
    refine tkS 5 4 (v := .int .i64 0) hS11 rfl rfl (by kernel_rfl) (by kernel_rfl) (by kernel_rfl) (by kernel_rfl) (wanted_none rfl) (fun _ _ _ h => h) (fun U hU => r_assign rfl) ?_
    refine doneS (by kernel_rfl) ?_
    have hW12 : Blk w11 w1.heap.size [.int .i64 n, .int .i64 lb, .slice a11 (l ++ [(lb, (⟨none, 0, 0⟩ : Sl))]).length c11] 30 := hW11
    have HW12 := hide hW12
    have HK12 := hide ((HK9.out.trans hkx (fun _ _ h => h)).trans hk11 (fun i hi h => by have := Hz1.out; omega))
    have HR12 := hide ((HR9.out.kept hkx (fun _ _ h => h)).kept hk11 (fun j hj h => by subst h; exact ownsRow_blk_ne (HR9.out.kept hkx (fun _ _ h => h)) hW10 (by decide) hj))
    rw [hfr.out]
    clear hfr e1 e2 hts hS10 hW10 hS11 hW11 hW12 hk11 hkx hheap
    try simp only [put_lit, put_none, List.set_cons_succ, List.set_cons_zero]
    go_wp2
    refine bodyPost_ret (results_cb3 rfl Try.agg30 rfl HW12.out rfl rfl rfl) rfl ?_
    exact ⟨_, rfl, HR12.out, HN9.out, HK12.out⟩
end Go.Proofs.Ytclfklcboigifaa
