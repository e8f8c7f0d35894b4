/-
  math/bits.Mul of 1 and a small number; slices.Repeat of one int.
-/
import Derived.Test.YteijgdfgdhafnaaMkB
namespace Go.Proofs.Yteijgdfgdhafnaa
open Go.RowKit Go.Shelf
set_option linter.unusedSimpArgs false
set_option linter.unusedVariables false
set_option maxRecDepth 100000

section
variable {ρ : Operand → Value} {w : World} {dst : Option Tmp} {ty : TypeId} {pos : String} {aft : Array Edge} {gd : Option (Nat × Bool)} {x y z : Operand}
theorem r_and64 {p : Int} (hx : ρ x = .int .u64 p) (hy : ρ y = .int .u64 4294967295) (h0 : 0 ≤ p) (h1 : p < 4294967296) :
    (execOp ρ ⟨dst, .binOp .and 60 x y 60, ty, pos, aft, gd⟩).run Try.prog w = .ok (.value (.int .u64 p)) w := by
  have h := u64_and p 4294967295 h0 (by omega) (by omega) (by omega)
  have e : p.toNat &&& (4294967295 : Int).toNat = p.toNat := by
    have := Nat.and_two_pow_sub_one_eq_mod p.toNat 32
    rw [show (4294967295 : Int).toNat = 2 ^ 32 - 1 by decide, this]
    omega
  rw [e] at h
  unfold bits at h
  simp [execOp, eqGuard, binOp, Op.intBits, hx, hy]
  simp only [Int.toNat_of_nonneg h0] at h
  simpa using h
theorem r_shr60 {p : Int} {tb : TypeId} (hx : ρ x = .int .u64 p) (hy : ρ y = .int .u64 32) (h0 : 0 ≤ p) (h1 : p < 4294967296) :
    (execOp ρ ⟨dst, .binOp .shr 60 x y tb, ty, pos, aft, gd⟩).run Try.prog w = .ok (.value (.int .u64 0)) w := by
  have e : p / 4294967296 = 0 := by omega
  simp [execOp, eqGuard, binOp, Op.shift, hx, hy]
  rw [show min 32 IntKind.u64.bits = 32 from rfl]
  rw [Int.fdiv_eq_ediv_of_nonneg _ (by decide)]
  simp [e]
end
set_option maxHeartbeats 1000000 in
theorem mul64_at (w : World) (n : Nat) (hn : n ≤ 64) : Calls Try.prog 22 #[.int .u64 1, .int .u64 n] w fun e w' => e = .returned (.tuple #[.int .u64 0, .int .u64 n]) ∧ w = w' := by
  have h1 : (n : Int) < 4294967296 := by omega
  have h0 : (0 : Int) ≤ (n : Int) := by omega
  have hw : IntKind.u64.wrap (n : Int) = n := by rw [IntKind.wrap_u64]; omega
  go_enter Try.func22, Try.ntmps22
  go_wp2_with (first | (with_reducible refine wpList_run rfl (r_and64 rfl rfl (by omega) (by omega)) ?_) | (with_reducible refine wpList_run rfl (r_shr60 rfl rfl (by omega) (by omega)) ?_))
  go_ret2
  exact ⟨rfl, rfl⟩
theorem mul_at (w : World) (n : Nat) (hn : n ≤ 64) : Calls Try.prog 20 #[.int .u64 1, .int .u64 n] w fun e w' => e = .returned (.tuple #[.int .u64 0, .int .u64 n]) ∧ w = w' := by
  have HM := hide (mul64_at w n hn)
  have hw : IntKind.u64.wrap (n : Int) = n := by rw [IntKind.wrap_u64]; omega
  clear hn
  go_enter Try.func20, Try.ntmps20
  go_wp2_with (go_at_call 22; refine HM.out.mono ?_; rintro e w1 ⟨rfl, rfl⟩)
  go_ret2
  exact ⟨rfl, rfl⟩
section
variable {ρ : Operand → Value} {w : World} {dst : Option Tmp} {ty : TypeId} {pos : String} {aft : Array Edge} {gd : Option (Nat × Bool)} {x y z : Operand}
theorem r_hi28 {a : Addr} {len cap : Nat} (h : Nat) {k : IntKind} (hx : ρ x = .slice (some a) len cap) (hy : ρ y = .int k h) (hl : h ≤ cap) :
    (execOp ρ ⟨dst, .slice 28 x none (some y) none, ty, pos, aft, gd⟩).run Try.prog w = .ok (.value (.slice (some a) h cap)) w := by
  obtain ⟨i5, hi5, hz5, hs5, hb5⟩ := info_parts Try.info3
  have h2 : (0 : Int) ≤ (h : Int) ∧ (h : Int) ≤ (cap : Int) := by omega
  by_cases h1 : cap = 0
  · subst h1
    obtain rfl : h = 0 := by omega
    simp [execOp, Instr.sliceAt, run_underlying Try.underlying28, Instr.slice, hx, hy, Instr.sliceBounds, Instr.sliceBound, asIntOf, sizeOf, typeInfo, hi5]
  · simp [execOp, Instr.sliceAt, run_underlying Try.underlying28, Instr.slice, hx, hy, Instr.sliceBounds, Instr.sliceBound, asIntOf, h2, hl, sizeOf, typeInfo, hi5, h1, Addr.add]
end
section
variable {ρ : Operand → Value} {w : World} {dst : Option Tmp} {ty : TypeId} {pos : String} {aft : Array Edge} {gd : Option (Nat × Bool)} {x y z : Operand}
theorem r_lo28 {b off len cap : Nat} (l : Nat) (hx : ρ x = .slice (some ⟨b, off, none⟩) len cap) (hy : ρ y = .int .i64 l) (hl : l ≤ len) (hc : l < cap) :
    (execOp ρ ⟨dst, .slice 28 x (some y) none none, ty, pos, aft, gd⟩).run Try.prog w = .ok (.value (.slice (some ⟨b, off + l, none⟩) (len - l) (cap - l))) w := by
  obtain ⟨i5, hi5, hz5, hs5, hb5⟩ := info_parts Try.info3
  have h := run_slice_lo (P := Try.prog) (w := w) (dst := dst) (ty := ty) (pos := pos) (aft := aft) (gd := gd) Try.underlying28 hi5 hx l hy hl hc
  rw [hs5, Nat.mul_one] at h
  exact h
theorem r_copy28 {w' : World} {u v r : Value} (hx : ρ x = u) (hy : ρ y = v) (hr : (Builtin.copy_ #[28, 28] ty #[u, v]).run Try.prog w = .ok r w') : (execOp ρ ⟨dst, .call { callee := .builtin .copy, args := #[x, y], argTypes := #[28, 28] }, ty, pos, aft, gd⟩).run Try.prog w = .ok (.value r) w' := by
  simp [execOp, resolve, invoke, builtin, hx, hy, hr]
theorem r_add3 {p q r : Int} (hx : ρ x = .int .i64 p) (hy : ρ y = .int .i64 q) (hr : IntKind.i64.wrap (p + q) = r) : (execOp ρ ⟨dst, .binOp .add 3 x y 3, ty, pos, aft, gd⟩).run Try.prog w = .ok (.value (.int .i64 r)) w := by
  subst hr
  go_simp
end
/-- The first k are x. -/
def repL (x : Int) (n k : Nat) : List Value := List.replicate k (.int .i64 x) ++ List.replicate (n - k) (.int .i64 0)
theorem repL_len {x : Int} {n k : Nat} (h : k ≤ n) : (repL x n k).length = n := by simp [repL]; omega
theorem repL_put {x : Int} {n k m : Nat} (hm : m = min k (n - k)) (hk : k ≤ n) : put (repL x n k) k (((repL x n k).drop 0).take (m * 1)) = repL x n (k + m) := by
  have h1 : ((repL x n k).drop 0).take (m * 1) = List.replicate m (.int .i64 x) := by
    rw [List.drop_zero, Nat.mul_one]
    unfold repL
    rw [List.take_append_of_le_length (by rw [List.length_replicate]; omega), List.take_replicate]
    rw [Nat.min_eq_left (by omega)]
  rw [h1]
  unfold put repL
  rw [List.length_replicate, List.take_left' (List.length_replicate), List.drop_append, List.length_replicate, List.drop_eq_nil_of_le (by rw [List.length_replicate]; omega), List.nil_append, List.drop_replicate, List.replicate_append_replicate]
  rw [show n - k - (k + m - k) = n - (k + m) by omega]
theorem repL_one (x : Int) (n k : Nat) : ∀ v ∈ repL x n k, v.oneCell' = true := by
  intro v hv
  simp only [repL, List.mem_append] at hv
  rcases hv with hv | hv <;> rw [List.eq_of_mem_replicate hv] <;> rfl
set_option maxHeartbeats 1000000 in
theorem repeat_at (w : World) (g0 n : Nat) (x : Int) (hn : 1 ≤ n ∧ n ≤ 64) (h0 : Blk w g0 [.int .i64 x] 3) :
    Calls Try.prog 16 #[.slice (some ⟨g0, 0, none⟩) 1 1, .int .i64 n] w fun e w' => ∃ g, e = .returned (.slice (some ⟨g, 0, none⟩) n n) ∧ w.heap.size ≤ g ∧ Blk w' g (ZV (List.replicate n x)) 3 ∧ Kept (fun _ => False) w w' := by
  have HM := hide (mul_at w n hn.2)
  have HO1 : Hid (∀ v ∈ [Value.int .i64 x], v.oneCell' = true) := hide (by intro v hv; simp at hv; subst hv; rfl)
  have H0 := hide h0
  have Hn := hide hn
  have hw : IntKind.u64.wrap (n : Int) = n := by rw [IntKind.wrap_u64]; omega
  have hw1 : IntKind.i64.wrap (n : Int) = n := by rw [IntKind.wrap_i64]; omega
  have hn0 : ¬ ((n : Int) < 0) := by omega
  have hn1 : ¬ ((9223372036854775807 : Int) < (n : Int)) := by omega
  obtain ⟨i3, hi3, hz3, hs3, hb3⟩ := info_parts Try.info3
  have Hi3 := hide hi3
  have Hz3 := hide hz3
  have Hs3 := hide hs3
  have Hb3 := hide hb3
  clear hn h0 hi3 hz3 hs3 hb3
  go_enter Try.func16, Try.ntmps16
  go_wp2_with (first
    | (go_at_call 20; refine HM.out.mono ?_; rintro e w1 ⟨rfl, rfl⟩)
    | ((with_reducible refine aw_make (n := n) 1 (by decide) Try.underlying28 Hi3.out Hz3.out rfl Hs3.out rfl rfl (by rw [Hb3.out]; have := Hn.out; omega) (by have := Hn.out; unfold maxLen; omega) ?_); intro w2 hw2 hk2 hz2; have HW2 := hide hw2; have HK2 := hide hk2; clear hw2 hk2 hz2)
    | ((with_reducible refine aw_copy Try.underlying28 Hi3.out 1 Hs3.out rfl rfl 1 (by have := Hn.out; omega) HW2.out (HK2.out.blk H0.out (fun h => h)) (by simp) (by have := Hn.out; simp; omega) HO1.out ?_); intro w3 hw3 hk3 hz3; have HW3 := hide hw3; have HK3 := hide hk3; clear hw3 hk3 hz3))
  have HK03 : Hid (Kept (fun _ => False) w w3) := hide (HK2.out.trans HK3.out (fun i hi h => by omega))
  go_loopw [8] (fun o wr => ∃ k : Nat, o = .int .i64 k ∧ 1 ≤ k ∧ k ≤ n ∧ Hid (Blk wr w.heap.size (repL x n k) 3) ∧ Hid (Kept (fun _ => False) w wr)) (fun o _ => n - (intOf o).toNat)
  case atStart =>
    refine ⟨1, rfl, Nat.le_refl _, Hn.out.1, hide ?_, HK03⟩
    have := HW3.out
    obtain ⟨m, hm⟩ : ∃ m, n = m + 1 := ⟨n - 1, by have := Hn.out; omega⟩
    subst hm
    simpa [put, repL, List.replicate_succ] using this
  case round =>
    obtain ⟨k, rfl, hk1, hk, HB, HK⟩ := hrel
    by_cases hlt : k < n
    · go_wp2_with fail
      obtain ⟨m, hm⟩ : ∃ m, m = min k (n - k) := ⟨_, rfl⟩
      have Hm := hide hm
      have hm1 : 1 ≤ m ∧ k + m ≤ n := by omega
      have hwk : IntKind.i64.wrap ((k : Int) + (m : Int)) = ((k + m : Nat) : Int) := by rw [IntKind.wrap_i64]; have := Hn.out; omega
      refine hold_frame (p := fun fr => Code.wp Try.prog _ _ fr _) ?_
      intro fr hfr
      have e7 : fr.eval (.tmp 7) = .slice (some ⟨w.heap.size, 0, none⟩) n n := by rw [hfr.out]; rfl
      have e8 : fr.eval (.tmp 8) = .int .i64 k := by rw [hfr.out]; rfl
      have hts : fr.tmps.size = 48 := by rw [hfr.out]; rfl
      refine region_S 99 (fun _ => True) Try.mixed ?_
      intro w4 hk4 hz4
      have HB4 := hide (hk4.blk HB.out (fun h => h))
      have HK4 := hide (HK.out.trans hk4 (fun _ _ h => h))
      refine tkS 0 38 (v := .int .i64 k) trivial rfl rfl (by kernel_rfl) (by kernel_rfl) (by kernel_rfl) (by kernel_rfl) (wanted_none rfl) (fun _ _ _ h => h) (fun U hU => r_move (by simp [eval_put_ne, eval_put_eq, size_put, hts, e8])) ?_
      refine tkS 1 39 (v := .slice (some ⟨w.heap.size, 0, none⟩) n n) trivial rfl rfl (by kernel_rfl) (by kernel_rfl) (by kernel_rfl) (by kernel_rfl) (wanted_none rfl) (fun _ _ _ h => h) (fun U hU => r_move (by simp [eval_put_ne, eval_put_eq, size_put, hts, e7])) ?_
      refine tkS 2 40 (v := .int .i64 k) trivial rfl rfl (by kernel_rfl) (by kernel_rfl) (by kernel_rfl) (by kernel_rfl) (wanted_none rfl) (fun _ _ _ h => h) (fun U hU => r_move (by simp [eval_put_ne, eval_put_eq, size_put, hts, e8])) ?_
      refine tkS 3 41 (v := .slice (some ⟨w.heap.size, 0 + k, none⟩) (n - k) (n - k)) trivial rfl rfl (by kernel_rfl) (by kernel_rfl) (by kernel_rfl) (by kernel_rfl) (wanted_none rfl) (fun _ _ _ h => h) (fun U hU => r_lo28 (b := w.heap.size) (off := 0) (len := n) (cap := n) k (by simp [eval_put_ne, eval_put_eq, size_put, hts]) (by simp [eval_put_ne, eval_put_eq, size_put, hts]) (by omega) (by omega)) ?_
      refine tkS 4 42 (v := .slice (some ⟨w.heap.size, 0, none⟩) n n) trivial rfl rfl (by kernel_rfl) (by kernel_rfl) (by kernel_rfl) (by kernel_rfl) (wanted_none rfl) (fun _ _ _ h => h) (fun U hU => r_move (by simp [eval_put_ne, eval_put_eq, size_put, hts, e7])) ?_
      refine tkS 5 43 (v := .int .i64 k) trivial rfl rfl (by kernel_rfl) (by kernel_rfl) (by kernel_rfl) (by kernel_rfl) (wanted_none rfl) (fun _ _ _ h => h) (fun U hU => r_move (by simp [eval_put_ne, eval_put_eq, size_put, hts, e8])) ?_
      refine tkS 6 44 (v := .slice (some ⟨w.heap.size, 0, none⟩) k n) trivial rfl rfl (by kernel_rfl) (by kernel_rfl) (by kernel_rfl) (by kernel_rfl) (wanted_none rfl) (fun _ _ _ h => h) (fun U hU => r_hi28 (a := ⟨w.heap.size, 0, none⟩) (len := n) (cap := n) (k := .i64) k (by simp [eval_put_ne, eval_put_eq, size_put, hts]) (by simp [eval_put_ne, eval_put_eq, size_put, hts]) (by omega)) ?_
      have hcp := run_copy_blk (P := Try.prog) (w := w4) (ty := 3) (dT := 28) (sT := 28) (g := w.heap.size) (off := 0 + k) (dLen := n - k) (dCap := n - k) (b := w.heap.size) (so := 0) (sLen := k) (sCap := n) Try.underlying28 Hi3.out m hm HB4.out HB4.out (by rw [repL_len hk, Hs3.out]; omega) (by rw [repL_len hk, Hs3.out]; omega) (repL_one x n k)
      rw [Hs3.out, Nat.zero_add, repL_put hm hk] at hcp
      have hw5 : Blk (w4.setRow w.heap.size (repL x n (k + m)).toArray) w.heap.size (repL x n (k + m)) 3 := HB4.out.setRow _
      have hk5 : Kept (fun j => j = w.heap.size) w4 (w4.setRow w.heap.size (repL x n (k + m)).toArray) := Kept.setRow (S := fun j => j = w.heap.size) w4 _ _ rfl
      generalize w4.setRow w.heap.size (repL x n (k + m)).toArray = w5 at hcp hw5 hk5
      refine oneVS 7 45 (v := .int .i64 m) (w' := w5) (by kernel_rfl) rfl rfl (wanted_none rfl) (r_copy28 (u := .slice (some ⟨w.heap.size, 0 + k, none⟩) (n - k) (n - k)) (v := .slice (some ⟨w.heap.size, 0, none⟩) k n) (by simp [eval_put_ne, eval_put_eq, size_put, hts]) (by simp [eval_put_ne, eval_put_eq, size_put, hts]) (by rw [Nat.zero_add]; exact hcp)) trivial ?_
      refine tkS 8 46 (v := .int .i64 ((k + m : Nat) : Int)) trivial rfl rfl (by kernel_rfl) (by kernel_rfl) (by kernel_rfl) (by kernel_rfl) (wanted_none rfl) (fun _ _ _ h => h) (fun U hU => r_add3 (by simp [eval_put_ne, eval_put_eq, size_put, hts]) (by simp [eval_put_ne, eval_put_eq, size_put, hts]) hwk) ?_
      refine tkS 9 8 (v := .int .i64 ((k + m : Nat) : Int)) trivial rfl rfl (by kernel_rfl) (by kernel_rfl) (by kernel_rfl) (by kernel_rfl) (wanted_none rfl) (fun _ _ _ h => h) (fun U hU => r_assign (by simp [eval_put_ne, eval_put_eq, size_put, hts])) ?_
      refine doneS (by kernel_rfl) ?_
      rw [hfr.out]
      clear hfr e7 e8 hts
      simp only [put_lit, put_none, List.set_cons_succ, List.set_cons_zero]
      have HB5 := hide hw5
      have HK5 : Hid (Kept (fun _ => False) w w5) := hide (HK4.out.trans hk5 (fun i hi h => by omega))
      clear hk4 hz4 hcp
      clear hm hw5 hk5 hw hw1 hn0 hn1 hwk
      go_wp2
      go_roundw
      case rel => exact ⟨k + m, by simp, by omega, by omega, HB5, HK5⟩
      case measure => simp [intOf]; omega
    · obtain rfl : k = n := by omega
      go_wp2
      go_ret
      refine ⟨_, rfl, Nat.le_refl _, ?_, HK.out⟩
      have := HB.out
      simpa [repL, ZV] using this
end Go.Proofs.Yteijgdfgdhafnaa
