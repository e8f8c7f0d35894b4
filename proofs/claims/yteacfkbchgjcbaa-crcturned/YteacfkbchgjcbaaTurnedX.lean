/-
  The walk of CrcTurned: it answers true, and touches nothing that was there.
-/
import Derived.Test.YteacfkbchgjcbaaFirst
namespace Go.Proofs.Yteacfkbchgjcbaa
open Go.RowKit Go.Shelf
set_option linter.unusedSimpArgs false
set_option linter.unusedVariables false

section
variable {ρ : Operand → Value} {w : World} {dst : Option Tmp} {ty : TypeId} {pos : String} {aft : Array Edge} {gd : Option (Nat × Bool)} {x y z : Operand}
theorem r_shl8 {tb : TypeId} {k : IntKind} {j : Nat} (hx : ρ x = .int .u8 1) (hy : ρ y = .int k j) (hj : j ≤ 7) :
    (execOp ρ ⟨dst, .binOp .shl 5 x y tb, ty, pos, aft, gd⟩).run Try.prog w = .ok (.value (.int .u8 ((2 ^ j : Nat) : Int))) w := by
  have hn : ¬ ((j : Int) < 0) := by omega
  have hm : min ((j : Int).toNat) IntKind.u8.bits = j := by simp [IntKind.bits]; omega
  have hlt : 2 ^ j < 256 := Nat.lt_of_le_of_lt (Nat.pow_le_pow_right (by decide) hj) (by decide)
  have hw : IntKind.u8.wrap (1 * 2 ^ j) = ((2 ^ j : Nat) : Int) := by
    rw [IntKind.wrap_u8, Int.one_mul]
    have : ((2 ^ j : Nat) : Int) = (2 : Int) ^ j := by push_cast; rfl
    rw [← this]
    generalize 2 ^ j = t at *
    omega
  simp [execOp, eqGuard, binOp, Op.shift, hx, hy, hn, hm]
  simpa using hw
theorem r_xor8 {tb : TypeId} {p q : Nat} (hp : p < 256) (hq : q < 256) (hx : ρ x = .int .u8 p) (hy : ρ y = .int .u8 q) :
    (execOp ρ ⟨dst, .binOp .xor 5 x y tb, ty, pos, aft, gd⟩).run Try.prog w = .ok (.value (.int .u8 ((p ^^^ q : Nat) : Int))) w := by
  have h := u8_xor_nat p q hp hq
  unfold bits at h
  simp [execOp, eqGuard, binOp, Op.intBits, hx, hy]
  simpa using h
end

set_option maxHeartbeats 1000000 in
theorem turned_out (w : World) (bo : Option Addr) (len cap : Nat) (x : Int) (hl : len ≤ 9223372036854775807) (h : 3000 < len ∨ len < 4) :
    Calls Try.prog 4 #[.slice bo len cap, .int .u16 x] w fun e w' => e = .returned (.bool true) ∧ Kept (fun _ => False) w w' := by
  rcases h with h | h
  all_goals
    go_enter Try.func4, Try.ntmps4
    go_wp2_with (go_at_call 6; refine (first_any w).mono ?_; rintro e w1 ⟨rfl, hk⟩)
    go_ret
    exact ⟨rfl, hk⟩

set_option maxHeartbeats 2000000 in
theorem turned_any (w : World) (v : Value) (B : List Nat) (hs : Src w v B) (x : Nat) (hx : x < 65536) (h4 : 4 ≤ B.length) (h3 : B.length ≤ 3000) :
    Calls Try.prog 4 #[v, .int .u16 x] w fun e w' => e = .returned (.bool true) ∧ Kept (fun _ => False) w w' := by
  have hB := hs.lt
  have HS := hide hs
  obtain ⟨bo, cap, hv, hcap, _, _, _⟩ := hs
  subst hv
  obtain ⟨i, hi⟩ : ∃ i, i = x % (8 * B.length) := ⟨_, rfl⟩
  have hil : i < 8 * B.length := by rw [hi]; exact Nat.mod_lt _ (by omega)
  have hwx : IntKind.i64.wrap (x : Int) = (x : Int) := by rw [IntKind.wrap_i64]; omega
  have hw8 : IntKind.i64.wrap (8 * (B.length : Int)) = ((8 * B.length : Nat) : Int) := by rw [IntKind.wrap_i64]; omega
  obtain ⟨M, hM⟩ : ∃ M, markN B = M := ⟨_, rfl⟩
  have hMl : M.length = B.length := by rw [← hM, markN_length]
  have hMb : ∀ x ∈ M, x < 256 := by rw [← hM]; exact markN_lt B hB
  have HMb := hide hMb
  have HMg : Hid (goodN M = true) := hide (by rw [← hM]; exact goodN_mark B h4)
  have HT : Hid (∀ p c, p < B.length → c < 256 → c ≠ M.getD p 0 → goodN (M.set p c) = false) := hide (by rw [← hM]; exact fun p c hp hc hne => goodN_turned B hB h4 p c hp hc hne)
  have HM := hide hM
  clear hB hM hMb
  go_enter Try.func4, Try.ntmps4
  go_wp2_with fail
  refine (first_any w).mono ?_
  rintro e w1 ⟨rfl, hk1⟩
  go_wp2_with fail
  refine (mark_at w1 _ B (HS.out.kept hk1) (by omega)).mono ?_
  rintro e w2 ⟨g, rfl, hg, hlt, hk2⟩
  rw [HM.out] at hg
  have hsM := blk_src M hg HMb.out
  rw [hMl] at hsM
  have hG2 := good_at w2 _ M hsM (by omega)
  rw [HMg.out] at hG2
  have HG2 := hide hG2
  clear hG2 hsM
  go_wp2_with fail
  refine HG2.out.mono ?_
  rintro e w3 ⟨rfl, hk3⟩
  have hg3 := hk3.blk hg (fun h => h)
  go_wp2_with fail
  have hmod : ((x : Int)) % (8 * (B.length : Int)) = (i : Int) := by rw [hi]; push_cast; rfl
  rw [hmod]
  obtain ⟨p, hp⟩ : ∃ p, p = i / 8 := ⟨_, rfl⟩
  obtain ⟨r, hr⟩ : ∃ r, r = i % 8 := ⟨_, rfl⟩
  have k1 : ((i : Int)) / 8 = (p : Int) := by omega
  have k2 : ((i : Int)) % 8 = (r : Int) := by omega
  have k3 : ((i : Int)).tmod 8 = (r : Int) := by rw [Int.tmod_eq_emod_of_nonneg (by omega)]; exact k2
  have k4 : IntKind.i64.wrap (p : Int) = (p : Int) := by rw [IntKind.wrap_i64]; omega
  have hpl : p < B.length := by omega
  have hplM : p < M.length := by omega
  have hr8 : r ≤ 7 := by omega
  clear hp hr hmod hwx hw8 hi hil
  refine region_tail 9 Try.mixed (by kernel_rfl) ?_
  intro w4 hk4 hz4
  simp only [List.take_succ_cons, List.take_zero, List.drop_succ_cons, List.drop_zero]
  have hg4 := hk4.blk hg3 (fun h => h)
  have c0 := (hg4.cell p).trans (BV_get M p hplM)
  have f0 := hg4.frozen p
  have hyb := HMb.out _ (List.getElem_mem hplM)
  have HY : Hid (M.getD p 0 = M[p]) := hide (by simp [hplM])
  obtain ⟨y, hy⟩ : ∃ y, M[p] = y := ⟨_, rfl⟩
  rw [hy] at c0 hyb HY
  obtain ⟨c, hc⟩ : ∃ c, y ^^^ 2 ^ r = c := ⟨_, rfl⟩
  have h2r : 2 ^ r < 256 := Nat.lt_of_le_of_lt (Nat.pow_le_pow_right (by decide) hr8) (by decide)
  have hcl : c < 256 := by rw [← hc]; exact Nat.xor_lt_two_pow (n := 8) hyb h2r
  have hcne : c ≠ y := by
    intro e
    rw [e] at hc
    have h0 : y ^^^ 2 ^ r = y ^^^ 0 := by rw [hc]; simp
    have := xor_left_cancel h0
    have := Nat.pow_pos (n := r) (show 0 < 2 by decide)
    omega
  have HC := hide hc
  have HGT : Hid (goodN (M.set p c) = false) := hide (HT.out p c hpl hcl (by rw [HY.out]; exact hcne))
  have HZ4 := hide hz4
  clear hz4 hc hy hcne
  still_step
  still_step
  still_step
  have hpI : (p : Int) < (B.length : Int) := by omega
  still_step
  still_step
  still_step
  still_step
  refine wpStill_run rfl (r_shl8 (j := r) (k := .i64) rfl rfl hr8) ?_
  refine wpStill_run rfl (r_xor8 (p := y) (q := 2 ^ r) hyb h2r rfl rfl) ?_
  rw [HC.out]
  refine wpStill_nil ?_
  go_wp2_with fail
  have hkS := Kept.setCell (S := fun k => k = g) w4 ⟨g, p, none⟩ (.int .u8 (c : Int)) rfl
  have hg5 := hg4.setCell p (.int .u8 (c : Int))
  have hset : (BV M).set p (.int .u8 (c : Int)) = BV (M.set p c) := by simp [BV]
  rw [hset] at hg5
  have hk5 : Kept (fun _ => False) w (w4.setCell ⟨g, p, none⟩ (.int .u8 (c : Int))) := (((hk1.trans hk2 (fun _ _ h => h)).trans hk3 (fun _ _ h => h)).trans hk4 (fun _ _ h => h)).trans hkS (fun k hk e => by have := hk1.size; omega)
  generalize w4.setCell ⟨g, p, none⟩ (.int .u8 (c : Int)) = w5 at *
  have hs5 := blk_src (M.set p c) hg5 (fun x hx => by
    rcases List.mem_or_eq_of_mem_set hx with h | h
    · exact HMb.out x h
    · omega)
  rw [List.length_set, hMl] at hs5
  have hG5 := good_at w5 _ (M.set p c) hs5 (by rw [List.length_set]; omega)
  rw [HGT.out] at hG5
  refine hG5.mono ?_
  rintro e w6 ⟨rfl, hk6⟩
  have hkf := hk5.trans hk6 (fun _ _ h => h)
  clear hG5 hs5 hg5 hset hkS c0 f0 hg4 hg3 hg hk6 hk5 hk4 hk3 hk2 hk1
  go_wp2
  go_ret
  exact ⟨rfl, hkf⟩

end Go.Proofs.Yteacfkbchgjcbaa
