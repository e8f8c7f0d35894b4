/-
  The statements' operations: as they lie in memory, and what a pen writes of them.
-/
import Derived.Test.YtbbhchmdggfncaaJ04
import Derived.Test.YtbbhchmdggfncaaJ05
import Derived.Test.YtbbhchmdggfncaaJ02
import Derived.Test.YtbbhchmdggfncaaJ01
import Derived.Laws.BitsAllLaws
import Derived.Laws.StructEq
import Derived.Shelf.Abstract
namespace Go.Proofs.Ytbbhchmdggfncaa
open Go.RowKit Go.Shelf
set_option linter.unusedSimpArgs false
set_option linter.unusedVariables false
set_option maxRecDepth 100000

section
variable {ρ : Operand → Value} {w : World} {dst : Option Tmp} {ty : TypeId} {pos : String} {aft : Array Edge} {gd : Option (Nat × Bool)} {x y z : Operand}
theorem r_ld3 {b o : Nat} {v : Value} (hx : ρ x = .pointer (some ⟨b, o, none⟩)) (hc : w.cell? ⟨b, o, none⟩ = some v) : (execOp ρ ⟨dst, .load 3 x, ty, pos, aft, gd⟩).run Try.prog w = .ok (.value v) w := by
  go_simp
theorem r_call3 {f : FuncId} {u v t : Value} {t1 t2 t3 : TypeId} {fn : Func} {c : Code} (hf : Try.prog.funcs[f]? = some fn) (hn : (fn.name == "runtime.NumGoroutine") = false) (hb : fn.body = some c) (hfv : ρ (.func f) = .func (.func f) #[] #[]) (hx : ρ x = u) (hy : ρ y = v) (hz : ρ z = t) :
    (execOp ρ ⟨dst, .call { callee := .value (.func f), args := #[x, y, z], argTypes := #[t1, t2, t3] }, ty, pos, aft, gd⟩).run Try.prog w = .ok (.enter f #[u, v, t]) w := by
  have h := enters_of hf hn hb #[u, v, t] w
  simp [execOp, resolve, hfv, hx, hy, hz, Deferred.ofValue, invoke, h]
end

theorem fits_eq {n m : Nat} (h1 : 1 ≤ m) (h8 : m ≤ 8) : fitsN n m = decide (n / 256 ^ m = 0) := by rw [fits_yes h1 h8, pow_8]
theorem first_yes {B : List Nat} (hB : ∀ x ∈ B, x < 256) (m : Nat) (h1 : 1 ≤ m) (h8 : m ≤ 8) (hl : m ≤ B.length) (h : m = 8 → B[0]'(by omega) ≤ 127) : firstN B m = some (valN (B.take m)) ∧ valN (B.take m) < 9223372036854775808 := by
  have hv : valN (B.take m) < 9223372036854775808 := by
    by_cases h7 : m ≤ 7
    · exact seven_lt B hB m h7
    · obtain rfl : m = 8 := by omega
      have h2 := eight_lt B hB hl
      have e : B.getD 0 0 = B[0]'(by omega) := by rw [List.getD_eq_getElem?_getD, List.getElem?_eq_getElem (by omega)]; rfl
      rw [e] at h2
      exact h2.2 (h rfl)
  rw [firstN_is h1 h8 hl, if_pos hv]
  exact ⟨rfl, hv⟩
end Go.Proofs.Ytbbhchmdggfncaa


/-
  The types of the translation that the walks of package crc meet, as closed facts; bytes in memory; the run of single operations on uint32 and bytes.
-/
namespace Go.Proofs.Ytbbhchmdggfncaa
open Go.RowKit Go.Shelf
set_option linter.unusedSimpArgs false
set_option linter.unusedVariables false
set_option maxRecDepth 100000

theorem Try.info127 : (Try.prog.info? 127).map (fun i => (i.zero, i.size, i.bytes)) = some (some (.agg (List.replicate 4 (.int .u8 0)).toArray), 4, 4) := by kernel_rfl
theorem Try.agg127 : aggSize Try.prog 127 4 := by
  obtain ⟨i0, hi, _, hs, _⟩ := info_parts Try.info127
  exact ⟨⟨i0, hi, hs⟩, _, Try.underlying127, .inl ⟨_, _, rfl⟩⟩
section
variable {ρ : Operand → Value} {w : World} {dst : Option Tmp} {ty : TypeId} {pos : String} {aft : Array Edge} {gd : Option (Nat × Bool)} {x y z : Operand}
theorem r_xor32 {tb : TypeId} {p q : Nat} (hp : p < 4294967296) (hq : q < 4294967296) (hx : ρ x = .int .u32 p) (hy : ρ y = .int .u32 q) :
    (execOp ρ ⟨dst, .binOp .xor 129 x y tb, ty, pos, aft, gd⟩).run Try.prog w = .ok (.value (.int .u32 ((p ^^^ q : Nat) : Int))) w := by
  have h := u32_xor_nat p q hp hq
  unfold bits at h
  simp [execOp, eqGuard, binOp, Op.intBits, hx, hy]
  simpa using h
theorem r_and32 {tb : TypeId} {p q : Nat} (hp : p < 4294967296) (hq : q < 4294967296) (hx : ρ x = .int .u32 p) (hy : ρ y = .int .u32 q) :
    (execOp ρ ⟨dst, .binOp .and 129 x y tb, ty, pos, aft, gd⟩).run Try.prog w = .ok (.value (.int .u32 ((p &&& q : Nat) : Int))) w := by
  have h := u32_and_nat p q hp hq
  unfold bits at h
  simp [execOp, eqGuard, binOp, Op.intBits, hx, hy]
  simpa using h
theorem r_shr32 {tb : TypeId} {p : Nat} {j : Nat} {k : IntKind} (hj : j ≤ 32) (hx : ρ x = .int .u32 p) (hy : ρ y = .int k j) :
    (execOp ρ ⟨dst, .binOp .shr 129 x y tb, ty, pos, aft, gd⟩).run Try.prog w = .ok (.value (.int .u32 ((p / 2 ^ j : Nat) : Int))) w := by
  have hn : ¬ ((j : Int) < 0) := by omega
  have hm : min ((j : Int).toNat) IntKind.u32.bits = j := by simp [IntKind.bits]; omega
  simp [execOp, eqGuard, binOp, Op.shift, hx, hy, hn, hm]
theorem r_not32 {p : Nat} (hp : p < 4294967296) (hx : ρ x = .int .u32 p) :
    (execOp ρ ⟨dst, .unOp .xor 129 x, ty, pos, aft, gd⟩).run Try.prog w = .ok (.value (.int .u32 ((4294967295 - p : Nat) : Int))) w := by
  have h := u32_xor_nat 4294967295 p (by decide) hp
  unfold bits at h
  have e : 4294967295 ^^^ p = 4294967295 - p := by
    apply Nat.eq_of_testBit_eq
    intro i
    have h1 := Nat.testBit_two_pow_sub_succ (x := p) (n := 32) (by omega) i
    have h2 : 4294967295 - p = 2 ^ 32 - (p + 1) := by omega
    rw [h2, h1, Nat.testBit_xor, show 4294967295 = 2 ^ 32 - 1 by decide, Nat.testBit_two_pow_sub_one]
    by_cases hi : i < 32
    · simp [hi]
    · have : p.testBit i = false := Nat.testBit_lt_two_pow (Nat.lt_of_lt_of_le hp (by
        have : 2 ^ 32 ≤ 2 ^ i := Nat.pow_le_pow_right (by omega) (by omega)
        simpa using this))
      simp [hi, this]
  rw [e] at h
  have hmx : IntKind.u32.max = 4294967295 := by decide
  simp only [execOp, hx, unary_xor, IntKind.signed, Bool.false_eq_true, if_false, hmx]
  simp [Op.intBits]
  simpa using h
end

end Go.Proofs.Ytbbhchmdggfncaa


/-
  crc.take, crc.Join, crc.Sum: the sums as numbers.
-/
namespace Go.Proofs.Ytbbhchmdggfncaa
open Go.RowKit Go.Shelf
set_option linter.unusedSimpArgs false
set_option linter.unusedVariables false
set_option maxRecDepth 100000

set_option maxHeartbeats 1000000 in
theorem take_at (w : World) (r x : Nat) (hr : r < 4294967296) (hx : x < 256) :
    Calls Try.prog 95 #[.int .u32 r, .int .u8 x] w fun e w' => e = .returned (.int .u32 (takeN r x)) ∧ w = w' := by
  obtain ⟨s, hs⟩ : ∃ s, s = r ^^^ x := ⟨_, rfl⟩
  have hslt : s < 4294967296 := by rw [hs]; exact Nat.xor_lt_two_pow (n := 32) hr (by omega)
  have HS := hide hs
  clear hs
  have hwx : IntKind.u32.wrap (x : Int) = (x : Int) := by rw [IntKind.wrap_u32']; omega
  have HT : Hid (takeN r x = stepsN 8 s) := hide (by rw [HS.out]; rfl)
  go_enter Try.func95, Try.ntmps95
  go_wp2_with (with_reducible refine stop_bin .xor ?_)
  refine hide ?_
  refine wpList_run rfl (r_xor32 (p := r) (q := x) hr (by omega) rfl rfl) ?_
  rw [← HS.out]
  go_wp2
  go_loopw [0, 10] (fun v i wr => ∃ k : Nat, k ≤ 8 ∧ v = .int .u32 (stepsN k s : Nat) ∧ i = .int .i64 k ∧ w = wr) (fun _ i _ => 8 - (intOf i).toNat)
  case atStart => exact ⟨0, by omega, rfl, rfl, rfl⟩
  case round =>
    obtain ⟨k, hk, rfl, rfl, rfl⟩ := hrel
    have hlt := stepsN_lt hslt k
    have HN : Hid (stepsN (k + 1) s = stepN (stepsN k s)) := hide rfl
    generalize hq : stepsN k s = q at *
    have HQ := hide hq
    clear hq
    by_cases h8 : k < 8
    · obtain ⟨d, hd⟩ : ∃ d, q / 2 = d := ⟨_, rfl⟩
      by_cases h1 : q % 2 = 1
      · skip
        have HX : Hid (stepN q = d ^^^ 3988292384) := hide (by unfold stepN polyN; rw [if_pos h1, hd])
        have HD := hide hd
        have hdl : d < 4294967296 := by omega
        clear hd
        go_wp2_with (with_reducible refine stop_bin .and ?_)
        refine hide ?_
        refine wpList_run rfl (r_and32 (p := q) (q := 1) hlt (by decide) rfl rfl) ?_
        rw [Nat.and_one_is_mod, h1]
        go_wp2_with (with_reducible refine stop_bin .shr ?_)
        refine hide ?_
        refine wpList_run rfl (r_shr32 (p := q) (j := 1) (by decide) rfl rfl) ?_
        rw [Nat.pow_one, HD.out]
        clear h1
        go_wp2_with (with_reducible refine stop_bin .xor ?_)
        refine hide ?_
        refine wpList_run rfl (r_xor32 (p := d) (q := 3988292384) hdl (by decide) rfl rfl) ?_
        rw [← HX.out, ← HN.out]
        go_wp2
        go_roundw
        case rel => exact ⟨k + 1, by omega, rfl, by go_num, trivial⟩
        case measure => simp [intOf]; omega
      · skip
        have h0 : q % 2 = 0 := by omega
        have HX : Hid (stepN q = d) := hide (by unfold stepN; rw [if_neg h1, hd])
        have HD := hide hd
        have hdl : d < 4294967296 := by omega
        clear hd
        go_wp2_with (with_reducible refine stop_bin .and ?_)
        refine hide ?_
        refine wpList_run rfl (r_and32 (p := q) (q := 1) hlt (by decide) rfl rfl) ?_
        rw [Nat.and_one_is_mod, h0]
        go_wp2_with (with_reducible refine stop_bin .shr ?_)
        refine hide ?_
        refine wpList_run rfl (r_shr32 (p := q) (j := 1) (by decide) rfl rfl) ?_
        rw [Nat.pow_one, HD.out]
        clear h1 h0
        rw [← HX.out, ← HN.out]
        go_wp2
        go_roundw
        case rel => exact ⟨k + 1, by omega, rfl, by go_num, trivial⟩
        case measure => simp [intOf]; omega
    · obtain rfl : k = 8 := by omega
      go_wp2
      go_ret
      exact ⟨by rw [HT.out, HQ.out]; rfl, rfl⟩

set_option maxHeartbeats 1000000 in
theorem join_at (w : World) (was : Nat) (hw : was < 4294967296) (v : Value) (B : List Nat) (hs : Src w v B) (hl : B.length ≤ 9223372036854775807) :
    Calls Try.prog 94 #[.int .u32 was, v] w fun e w' => e = .returned (.int .u32 (joinN was B)) ∧ w = w' := by
  obtain ⟨bo, cap, rfl, hcap, hB, hsrc, hnil⟩ := hs
  clear hnil
  have HB := hide hB
  have HSrc := hide hsrc
  have HJ : Hid (joinN was B = 4294967295 - restN (4294967295 - was) B) := hide rfl
  clear hB hsrc
  go_enter Try.func94, Try.ntmps94
  go_wp2_with (with_reducible refine stop_un .xor ?_)
  refine hide ?_
  refine wpList_run rfl (r_not32 (p := was) hw rfl) ?_
  generalize hq : 4294967295 - was = q at *
  have hq0 : q < 4294967296 := by omega
  clear hq
  go_wp2
  go_loopw [5, 12] (fun v i wr => ∃ k : Nat, k ≤ B.length ∧ v = .int .u32 (restN q (B.take k) : Nat) ∧ i = .int .i64 k ∧ w = wr) (fun _ i _ => B.length - (intOf i).toNat)
  case atStart => exact ⟨0, by omega, rfl, rfl, rfl⟩
  case round =>
    obtain ⟨k, hk, rfl, rfl, rfl⟩ := hrel
    by_cases hlt : k < B.length
    · obtain ⟨sb, so, rfl, hc⟩ := HSrc.out (by omega)
      have c0 := hc k _ (BV_get B k hlt)
      have hx := HB.out _ (List.getElem_mem hlt)
      have hr0 : restN q (B.take k) < 4294967296 := restN_lt hq0 (fun x hx => HB.out x (List.mem_of_mem_take hx))
      have HT : Hid (restN q (B.take (k + 1)) = takeN (restN q (B.take k)) B[k]) := hide (by
        rw [← List.take_append_getElem hlt, restN_append]; rfl)
      clear hc
      generalize restN q (B.take k) = r at *
      generalize B[k] = x at *
      go_wp2_with (go_at_call 95; refine (take_at w r x hr0 hx).mono ?_; rintro e w1 ⟨rfl, rfl⟩; rw [← HT.out])
      go_roundw
      case rel => exact ⟨k + 1, by omega, rfl, by go_num, trivial⟩
      case measure => simp [intOf]; omega
    · obtain rfl : k = B.length := by omega
      rw [List.take_length]
      have hr0 : restN q B < 4294967296 := restN_lt hq0 HB.out
      generalize restN q B = r at *
      go_wp2_with (with_reducible refine stop_un .xor ?_)
      refine hide ?_
      refine wpList_run rfl (r_not32 (p := r) hr0 rfl) ?_
      rw [← HJ.out]
      go_wp2
      go_ret
      exact ⟨rfl, rfl⟩

theorem sum_at (w : World) (v : Value) (B : List Nat) (hs : Src w v B) (hl : B.length ≤ 9223372036854775807) :
    Calls Try.prog 84 #[v] w fun e w' => e = .returned (.int .u32 (joinN 0 B)) ∧ w = w' := by
  have HJ := hide (join_at w 0 (by decide) v B hs hl)
  clear hs
  go_enter Try.func84, Try.ntmps84
  go_wp2_with (go_at_call 94; refine HJ.out.mono ?_; rintro e w1 ⟨rfl, rfl⟩)
  go_ret
  exact ⟨rfl, rfl⟩

end Go.Proofs.Ytbbhchmdggfncaa


/-
  crc.cut, crc.spell, the reference's Four, bytes.Equal.
-/
namespace Go.Proofs.Ytbbhchmdggfncaa
open Go.RowKit Go.Shelf
set_option linter.unusedSimpArgs false
set_option linter.unusedVariables false
set_option maxRecDepth 100000

section
variable {ρ : Operand → Value} {w : World} {dst : Option Tmp} {ty : TypeId} {pos : String} {aft : Array Edge} {gd : Option (Nat × Bool)} {x y z : Operand}
theorem r_hi22 {a : Addr} {len cap : Nat} (h : Nat) {k : IntKind} (hx : ρ x = .slice (some a) len cap) (hy : ρ y = .int k h) (hl : h ≤ cap) :
    (execOp ρ ⟨dst, .slice 22 x none (some y) none, ty, pos, aft, gd⟩).run Try.prog w = .ok (.value (.slice (some a) h cap)) w := by
  obtain ⟨i5, hi5, hz5, hs5, hb5⟩ := info_parts Try.info5
  have h2 : (0 : Int) ≤ (h : Int) ∧ (h : Int) ≤ (cap : Int) := by omega
  by_cases h1 : cap = 0
  · subst h1
    obtain rfl : h = 0 := by omega
    simp [execOp, Instr.sliceAt, run_underlying Try.underlying22, Instr.slice, hx, hy, Instr.sliceBounds, Instr.sliceBound, asIntOf, sizeOf, typeInfo, hi5]
  · simp [execOp, Instr.sliceAt, run_underlying Try.underlying22, Instr.slice, hx, hy, Instr.sliceBounds, Instr.sliceBound, asIntOf, h2, hl, sizeOf, typeInfo, hi5, h1, Addr.add]
theorem r_lo22 {b off len cap : Nat} (l : Nat) {k : IntKind} (hx : ρ x = .slice (some ⟨b, off, none⟩) len cap) (hy : ρ y = .int k l) (hl : l ≤ len) (hc : l < cap) :
    (execOp ρ ⟨dst, .slice 22 x (some y) none none, ty, pos, aft, gd⟩).run Try.prog w = .ok (.value (.slice (some ⟨b, off + l, none⟩) (len - l) (cap - l))) w := by
  obtain ⟨i5, hi5, hz5, hs5, hb5⟩ := info_parts Try.info5
  have := run_slice_lo (P := Try.prog) (w := w) (dst := dst) (ty := ty) (pos := pos) (aft := aft) (gd := gd) Try.underlying22 hi5 hx l hy hl hc
  rw [hs5, Nat.mul_one] at this
  exact this
end
theorem Try.spells (a b c d : Int) : Try.prog.built 127 [(0, .int .u8 a), (1, .int .u8 b), (2, .int .u8 c), (3, .int .u8 d)] = some #[.int .u8 a, .int .u8 b, .int .u8 c, .int .u8 d] := by rfl

set_option maxHeartbeats 1000000 in
theorem cut_at (w : World) (sb so n cap : Nat) (hc : n + 4 ≤ cap) (hl : n ≤ 1000000) :
    Calls Try.prog 82 #[.slice (some ⟨sb, so, none⟩) (n + 4) cap] w fun e w' => e = .returned (.tuple #[.slice (some ⟨sb, so, none⟩) n cap, .slice (some ⟨sb, so + n, none⟩) 4 (cap - n)]) ∧ Kept (fun _ => False) w w' := by
  have hw : IntKind.i64.wrap (((n + 4 : Nat) : Int) - 4) = (n : Int) := by rw [IntKind.wrap_i64]; omega
  go_enter Try.func82, Try.ntmps82
  go_wp2
  clear hw
  refine hold_frame (p := fun fr => Code.wp Try.prog _ _ fr _) ?_
  intro fr hfr
  have e0 : fr.eval (.tmp 0) = .slice (some ⟨sb, so, none⟩) (n + 4) cap := by rw [hfr.out]; rfl
  have e4 : fr.eval (.tmp 4) = .int .i64 n := by rw [hfr.out]; rfl
  have hts : fr.tmps.size = 14 := by rw [hfr.out]; rfl
  refine region_kept Try.mixed ?_
  intro w0 hkw hheap
  have hk0 := Kept.refl (fun _ => False) w0
  refine tkK 0 8 (v := .slice (some ⟨sb, so, none⟩) (n + 4) cap) hk0 rfl rfl (by kernel_rfl) (by kernel_rfl) (by kernel_rfl) (wanted_none rfl) (fun _ _ _ h => h) (fun U hU => r_move (by simp [eval_put_ne, eval_put_eq, size_put, hts, e0])) ?_
  refine tkK 1 9 (v := .int .i64 n) hk0 rfl rfl (by kernel_rfl) (by kernel_rfl) (by kernel_rfl) (wanted_none rfl) (fun _ _ _ h => h) (fun U hU => r_move (by simp [eval_put_ne, eval_put_eq, size_put, hts, e4])) ?_
  refine tkK 2 10 (v := .slice (some ⟨sb, so, none⟩) n cap) hk0 rfl rfl (by kernel_rfl) (by kernel_rfl) (by kernel_rfl) (wanted_none rfl) (fun _ _ _ h => h) (fun U hU => r_hi22 (len := n + 4) n (k := .i64) (by simp [eval_put_ne, eval_put_eq, size_put, hts]) (by simp [eval_put_ne, eval_put_eq, size_put, hts]) (by omega)) ?_
  refine tkK 3 11 (v := .slice (some ⟨sb, so, none⟩) (n + 4) cap) hk0 rfl rfl (by kernel_rfl) (by kernel_rfl) (by kernel_rfl) (wanted_none rfl) (fun _ _ _ h => h) (fun U hU => r_move (by simp [eval_put_ne, eval_put_eq, size_put, hts, e0])) ?_
  refine tkK 4 12 (v := .int .i64 n) hk0 rfl rfl (by kernel_rfl) (by kernel_rfl) (by kernel_rfl) (wanted_none rfl) (fun _ _ _ h => h) (fun U hU => r_move (by simp [eval_put_ne, eval_put_eq, size_put, hts, e4])) ?_
  refine tkK 5 13 (v := .slice (some ⟨sb, so + n, none⟩) (n + 4 - n) (cap - n)) hk0 rfl rfl (by kernel_rfl) (by kernel_rfl) (by kernel_rfl) (wanted_none rfl) (fun _ _ _ h => h) (fun U hU => r_lo22 n (k := .i64) (by simp [eval_put_ne, eval_put_eq, size_put, hts]) (by simp [eval_put_ne, eval_put_eq, size_put, hts]) (by omega) (by omega)) ?_
  refine tkK 6 2 (v := .slice (some ⟨sb, so, none⟩) n cap) hk0 rfl rfl (by kernel_rfl) (by kernel_rfl) (by kernel_rfl) (wanted_none rfl) (fun _ _ _ h => h) (fun U hU => r_assign (by simp [eval_put_ne, eval_put_eq, size_put, hts])) ?_
  refine tkK 7 3 (v := .slice (some ⟨sb, so + n, none⟩) (n + 4 - n) (cap - n)) hk0 rfl rfl (by kernel_rfl) (by kernel_rfl) (by kernel_rfl) (wanted_none rfl) (fun _ _ _ h => h) (fun U hU => r_assign (by simp [eval_put_ne, eval_put_eq, size_put, hts])) ?_
  refine wpAnyH_done (by kernel_rfl) ?_ _
  rw [hfr.out]
  clear hfr
  simp only [put_lit, List.set_cons_succ, List.set_cons_zero]
  go_wp2
  go_ret2
  refine ⟨?_, hkw⟩
  simp

theorem run_loadVar {P : Program} {t : TypeId} {n b : Nat} {L : List Value} {e : TypeId} {w : World} (ht : aggSize P t n) (hb : Blk w b L e) (hl : L.length = n) :
    (loadVar t ⟨b, 0, none⟩).run P w = .ok (.agg L.toArray) w := by
  have hc := run_loadCells_list (P := P) w ⟨b, 0, none⟩ L (fun j v hj => by rw [addr_add, hb.cell, Nat.zero_add]; exact hj)
  rw [hl] at hc
  simp [loadVar, run_isAgg ht, run_sizeOf ht, hc]
theorem results_cell {P : Program} {fn : Func} {t : Tmp} {ty : TypeId} {n b : Nat} {L : List Value} {e : TypeId} {tmps : Array Value} {w : World} (h : fn.results = #[.cell t ty]) (ht : aggSize P ty n) (hx : tmps.getD t undef = .pointer (some ⟨b, 0, none⟩)) (hb : Blk w b L e) (hl : L.length = n) :
    (results fn tmps).run P w = .ok (.agg L.toArray) w := by
  have hv := run_loadVar (P := P) ht hb hl
  simp only [Array.getD_eq_getD_getElem?] at hx
  simp [results, h, hx, hv, asAddr]

theorem r_build38 {ρ : Operand → Value} {w : World} {dst : Option Tmp} {ty : TypeId} {pos : String} {aft : Array Edge} {gd : Option (Nat × Bool)} {x y z u : Operand} {a b c d : Int} (hx : ρ x = .int .u8 a) (hy : ρ y = .int .u8 b) (hz : ρ z = .int .u8 c) (hu : ρ u = .int .u8 d) {L : List Value} (hL : [Value.int .u8 a, .int .u8 b, .int .u8 c, .int .u8 d] = L) :
    (execOp ρ ⟨dst, .build 127 #[(0, x), (1, y), (2, z), (3, u)], ty, pos, aft, gd⟩).run Try.prog w = .ok (.value (.agg L.toArray)) w := by
  subst hL
  have hr := run_build (P := Try.prog) w 127 #[(0, .int .u8 a), (1, .int .u8 b), (2, .int .u8 c), (3, .int .u8 d)] _ (by simpa using Try.spells a b c d)
  simp [execOp, hx, hy, hz, hu, hr]

set_option maxHeartbeats 1000000 in
theorem spell_at (w : World) (v : Nat) (hv : v < 4294967296) :
    Calls Try.prog 83 #[.int .u32 v] w fun e w' => e = .returned (.agg (BV (fourN v)).toArray) ∧ Kept (fun _ => False) w w' := by
  obtain ⟨i38, hi38, hz38, hs38, hb38⟩ := info_parts Try.info127
  have Hi38 := hide hi38
  have Hz38 := hide hz38
  clear hi38 hz38 hs38 hb38
  have w0 : IntKind.u8.wrap (v : Int) = ((v % 256 : Nat) : Int) := by rw [IntKind.wrap_u8]; omega
  have HF : Hid (BV (fourN v) = [.int .u8 ((v % 256 : Nat) : Int), .int .u8 ((v / 256 % 256 : Nat) : Int), .int .u8 ((v / 65536 % 256 : Nat) : Int), .int .u8 ((v / 16777216 % 256 : Nat) : Int)]) := hide (by simp [BV, fourN])
  go_enter Try.func83, Try.ntmps83
  go_wp2_with (first
    | ((with_reducible refine aw_alloc (dst := some 2) Hi38.out Hz38.out ?_); intro w1 hw1 hk1 hz1; have Hz1 := hide hz1; clear hz1)
    | (with_reducible refine stop_build 127 ?_))
  refine hide ?_
  refine wpList_run rfl (r_build38 (L := BV (fourN v)) rfl rfl rfl rfl (by rw [HF.out]; simp; omega)) ?_
  have HL : Hid ((BV (fourN v)).length = 4) := hide (by simp [BV, fourN])
  have H1 := hide (BV_one (fourN v))
  clear HF w0
  obtain ⟨L, hL⟩ : ∃ L, BV (fourN v) = L := ⟨_, rfl⟩
  rw [hL] at HL H1 ⊢
  have HLe := hide hL
  clear hL
  go_wp2_with ((with_reducible refine aw_store (x := .tmp 2) Try.agg127 rfl rfl HL.out H1.out hw1 (by simp [Value.cells]) ?_); intro w2 hw2 hk2 hz2; rw [put_whole _ _ (by rw [HL.out]; simp [Value.cells])] at hw2; have Hz2 := hide hz2; clear hz2)
  have hkk : Kept (fun _ => False) w w2 := hk1.trans hk2 (fun i hi h => by omega)
  exact bodyPost_ret (results_cell (t := 2) (ty := 127) rfl Try.agg127 rfl hw2 HL.out) rfl ⟨by rw [HLe.out], hkk⟩

end Go.Proofs.Ytbbhchmdggfncaa
