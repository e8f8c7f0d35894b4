/-
  crc.cut, crc.spell, the reference's Four, bytes.Equal.
-/
import Derived.Test.YtapoagpkjngjpaaRefJ
namespace Go.Proofs.Ytapoagpkjngjpaa
open Go.RowKit Go.Shelf
set_option linter.unusedSimpArgs false
set_option linter.unusedVariables false
set_option maxRecDepth 100000

section
variable {ρ : Operand → Value} {w : World} {dst : Option Tmp} {ty : TypeId} {pos : String} {aft : Array Edge} {gd : Option (Nat × Bool)} {x y z : Operand}
theorem r_hi22 {a : Addr} {len cap : Nat} (h : Nat) {k : IntKind} (hx : ρ x = .slice (some a) len cap) (hy : ρ y = .int k h) (hl : h ≤ cap) :
    (execOp ρ ⟨dst, .slice 24 x none (some y) none, ty, pos, aft, gd⟩).run Try.prog w = .ok (.value (.slice (some a) h cap)) w := by
  obtain ⟨i5, hi5, hz5, hs5, hb5⟩ := info_parts Try.info5
  have h2 : (0 : Int) ≤ (h : Int) ∧ (h : Int) ≤ (cap : Int) := by omega
  by_cases h1 : cap = 0
  · subst h1
    obtain rfl : h = 0 := by omega
    simp [execOp, Instr.sliceAt, run_underlying Try.underlying24, Instr.slice, hx, hy, Instr.sliceBounds, Instr.sliceBound, asIntOf, sizeOf, typeInfo, hi5]
  · simp [execOp, Instr.sliceAt, run_underlying Try.underlying24, Instr.slice, hx, hy, Instr.sliceBounds, Instr.sliceBound, asIntOf, h2, hl, sizeOf, typeInfo, hi5, h1, Addr.add]
theorem r_lo22 {b off len cap : Nat} (l : Nat) {k : IntKind} (hx : ρ x = .slice (some ⟨b, off, none⟩) len cap) (hy : ρ y = .int k l) (hl : l ≤ len) (hc : l < cap) :
    (execOp ρ ⟨dst, .slice 24 x (some y) none none, ty, pos, aft, gd⟩).run Try.prog w = .ok (.value (.slice (some ⟨b, off + l, none⟩) (len - l) (cap - l))) w := by
  obtain ⟨i5, hi5, hz5, hs5, hb5⟩ := info_parts Try.info5
  have := run_slice_lo (P := Try.prog) (w := w) (dst := dst) (ty := ty) (pos := pos) (aft := aft) (gd := gd) Try.underlying24 hi5 hx l hy hl hc
  rw [hs5, Nat.mul_one] at this
  exact this
end
theorem Try.spells (a b c d : Int) : Try.prog.built 108 [(0, .int .u8 a), (1, .int .u8 b), (2, .int .u8 c), (3, .int .u8 d)] = some #[.int .u8 a, .int .u8 b, .int .u8 c, .int .u8 d] := by rfl

set_option maxHeartbeats 1000000 in
theorem cut_at (w : World) (sb so n cap : Nat) (hc : n + 4 ≤ cap) (hl : n ≤ 1000000) :
    Calls Try.prog 62 #[.slice (some ⟨sb, so, none⟩) (n + 4) cap] w fun e w' => e = .returned (.tuple #[.slice (some ⟨sb, so, none⟩) n cap, .slice (some ⟨sb, so + n, none⟩) 4 (cap - n)]) ∧ Kept (fun _ => False) w w' := by
  have hw : IntKind.i64.wrap (((n + 4 : Nat) : Int) - 4) = (n : Int) := by rw [IntKind.wrap_i64]; omega
  go_enter Try.func62, Try.ntmps62
  go_wp2
  clear hw
  refine hold_frame (p := fun fr => Code.wp Try.prog _ _ fr _) ?_
  intro fr hfr
  have e0 : fr.eval (.tmp 0) = .slice (some ⟨sb, so, none⟩) (n + 4) cap := by rw [hfr.out]; rfl
  have e4 : fr.eval (.tmp 4) = .int .i64 n := by rw [hfr.out]; rfl
  have hts : fr.tmps.size = 14 := by rw [hfr.out]; rfl
  refine region_kept Try.mixed ?_
  intro w0 hkw hheap
  have hk0 := Kept.refl (fun _ => False) w0
  refine tkK 0 8 (v := .slice (some ⟨sb, so, none⟩) (n + 4) cap) hk0 rfl rfl (by kernel_rfl) (by kernel_rfl) (by kernel_rfl) (wanted_none rfl) (fun _ _ _ h => h) (fun U hU => r_move (by simp [eval_put_ne, eval_put_eq, size_put, hts, e0])) ?_
  refine tkK 1 9 (v := .int .i64 n) hk0 rfl rfl (by kernel_rfl) (by kernel_rfl) (by kernel_rfl) (wanted_none rfl) (fun _ _ _ h => h) (fun U hU => r_move (by simp [eval_put_ne, eval_put_eq, size_put, hts, e4])) ?_
  refine tkK 2 10 (v := .slice (some ⟨sb, so, none⟩) n cap) hk0 rfl rfl (by kernel_rfl) (by kernel_rfl) (by kernel_rfl) (wanted_none rfl) (fun _ _ _ h => h) (fun U hU => r_hi22 (len := n + 4) n (k := .i64) (by simp [eval_put_ne, eval_put_eq, size_put, hts]) (by simp [eval_put_ne, eval_put_eq, size_put, hts]) (by omega)) ?_
  refine tkK 3 11 (v := .slice (some ⟨sb, so, none⟩) (n + 4) cap) hk0 rfl rfl (by kernel_rfl) (by kernel_rfl) (by kernel_rfl) (wanted_none rfl) (fun _ _ _ h => h) (fun U hU => r_move (by simp [eval_put_ne, eval_put_eq, size_put, hts, e0])) ?_
  refine tkK 4 12 (v := .int .i64 n) hk0 rfl rfl (by kernel_rfl) (by kernel_rfl) (by kernel_rfl) (wanted_none rfl) (fun _ _ _ h => h) (fun U hU => r_move (by simp [eval_put_ne, eval_put_eq, size_put, hts, e4])) ?_
  refine tkK 5 13 (v := .slice (some ⟨sb, so + n, none⟩) (n + 4 - n) (cap - n)) hk0 rfl rfl (by kernel_rfl) (by kernel_rfl) (by kernel_rfl) (wanted_none rfl) (fun _ _ _ h => h) (fun U hU => r_lo22 n (k := .i64) (by simp [eval_put_ne, eval_put_eq, size_put, hts]) (by simp [eval_put_ne, eval_put_eq, size_put, hts]) (by omega) (by omega)) ?_
  refine tkK 6 2 (v := .slice (some ⟨sb, so, none⟩) n cap) hk0 rfl rfl (by kernel_rfl) (by kernel_rfl) (by kernel_rfl) (wanted_none rfl) (fun _ _ _ h => h) (fun U hU => r_assign (by simp [eval_put_ne, eval_put_eq, size_put, hts])) ?_
  refine tkK 7 3 (v := .slice (some ⟨sb, so + n, none⟩) (n + 4 - n) (cap - n)) hk0 rfl rfl (by kernel_rfl) (by kernel_rfl) (by kernel_rfl) (wanted_none rfl) (fun _ _ _ h => h) (fun U hU => r_assign (by simp [eval_put_ne, eval_put_eq, size_put, hts])) ?_
  refine wpAnyH_done (by kernel_rfl) ?_ _
  rw [hfr.out]
  clear hfr
  simp only [put_lit, List.set_cons_succ, List.set_cons_zero]
  go_wp2
  go_ret2
  refine ⟨?_, hkw⟩
  simp

theorem run_loadVar {P : Program} {t : TypeId} {n b : Nat} {L : List Value} {e : TypeId} {w : World} (ht : aggSize P t n) (hb : Blk w b L e) (hl : L.length = n) :
    (loadVar t ⟨b, 0, none⟩).run P w = .ok (.agg L.toArray) w := by
  have hc := run_loadCells_list (P := P) w ⟨b, 0, none⟩ L (fun j v hj => by rw [addr_add, hb.cell, Nat.zero_add]; exact hj)
  rw [hl] at hc
  simp [loadVar, run_isAgg ht, run_sizeOf ht, hc]
theorem results_cell {P : Program} {fn : Func} {t : Tmp} {ty : TypeId} {n b : Nat} {L : List Value} {e : TypeId} {tmps : Array Value} {w : World} (h : fn.results = #[.cell t ty]) (ht : aggSize P ty n) (hx : tmps.getD t undef = .pointer (some ⟨b, 0, none⟩)) (hb : Blk w b L e) (hl : L.length = n) :
    (results fn tmps).run P w = .ok (.agg L.toArray) w := by
  have hv := run_loadVar (P := P) ht hb hl
  simp only [Array.getD_eq_getD_getElem?] at hx
  simp [results, h, hx, hv, asAddr]

theorem r_build38 {ρ : Operand → Value} {w : World} {dst : Option Tmp} {ty : TypeId} {pos : String} {aft : Array Edge} {gd : Option (Nat × Bool)} {x y z u : Operand} {a b c d : Int} (hx : ρ x = .int .u8 a) (hy : ρ y = .int .u8 b) (hz : ρ z = .int .u8 c) (hu : ρ u = .int .u8 d) {L : List Value} (hL : [Value.int .u8 a, .int .u8 b, .int .u8 c, .int .u8 d] = L) :
    (execOp ρ ⟨dst, .build 108 #[(0, x), (1, y), (2, z), (3, u)], ty, pos, aft, gd⟩).run Try.prog w = .ok (.value (.agg L.toArray)) w := by
  subst hL
  have hr := run_build (P := Try.prog) w 108 #[(0, .int .u8 a), (1, .int .u8 b), (2, .int .u8 c), (3, .int .u8 d)] _ (by simpa using Try.spells a b c d)
  simp [execOp, hx, hy, hz, hu, hr]

set_option maxHeartbeats 1000000 in
theorem spell_at (w : World) (v : Nat) (hv : v < 4294967296) :
    Calls Try.prog 63 #[.int .u32 v] w fun e w' => e = .returned (.agg (BV (fourN v)).toArray) ∧ Kept (fun _ => False) w w' := by
  obtain ⟨i38, hi38, hz38, hs38, hb38⟩ := info_parts Try.info108
  have Hi38 := hide hi38
  have Hz38 := hide hz38
  clear hi38 hz38 hs38 hb38
  have w0 : IntKind.u8.wrap (v : Int) = ((v % 256 : Nat) : Int) := by rw [IntKind.wrap_u8]; omega
  have HF : Hid (BV (fourN v) = [.int .u8 ((v % 256 : Nat) : Int), .int .u8 ((v / 256 % 256 : Nat) : Int), .int .u8 ((v / 65536 % 256 : Nat) : Int), .int .u8 ((v / 16777216 % 256 : Nat) : Int)]) := hide (by simp [BV, fourN])
  go_enter Try.func63, Try.ntmps63
  go_wp2_with (first
    | ((with_reducible refine aw_alloc (dst := some 2) Hi38.out Hz38.out ?_); intro w1 hw1 hk1 hz1; have Hz1 := hide hz1; clear hz1)
    | (with_reducible refine stop_build 108 ?_))
  refine hide ?_
  refine wpList_run rfl (r_build38 (L := BV (fourN v)) rfl rfl rfl rfl (by rw [HF.out]; simp; omega)) ?_
  have HL : Hid ((BV (fourN v)).length = 4) := hide (by simp [BV, fourN])
  have H1 := hide (BV_one (fourN v))
  clear HF w0
  obtain ⟨L, hL⟩ : ∃ L, BV (fourN v) = L := ⟨_, rfl⟩
  rw [hL] at HL H1 ⊢
  have HLe := hide hL
  clear hL
  go_wp2_with ((with_reducible refine aw_store (x := .tmp 2) Try.agg108 rfl rfl HL.out H1.out hw1 (by simp [Value.cells]) ?_); intro w2 hw2 hk2 hz2; rw [put_whole _ _ (by rw [HL.out]; simp [Value.cells])] at hw2; have Hz2 := hide hz2; clear hz2)
  have hkk : Kept (fun _ => False) w w2 := hk1.trans hk2 (fun i hi h => by omega)
  exact bodyPost_ret (results_cell (t := 2) (ty := 108) rfl Try.agg108 rfl hw2 HL.out) rfl ⟨by rw [HLe.out], hkk⟩

end Go.Proofs.Ytapoagpkjngjpaa
