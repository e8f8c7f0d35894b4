/-
  Controls in memory; within, slot, Right, and the reference's Right.
-/
import Derived.Test.YtapoagpkjngjpaaFrRefM
import Derived.Test.YtapoagpkjngjpaaFrGet
namespace Go.Proofs.Ytapoagpkjngjpaa
open Go.RowKit Go.Shelf
set_option linter.unusedSimpArgs false
set_option linter.unusedVariables false
set_option maxRecDepth 100000

theorem Try.info23 : (Try.prog.info? 23).map (fun i => (i.zero, i.size, i.bytes)) = some (some (.agg #[.int .i64 0, .int .i64 0, .int .i64 0, .int .i64 0, .int .i64 0, .int .i64 0, .int .i64 0]), 7, 56) := by kernel_rfl
theorem Try.agg23 : aggSize Try.prog 23 7 := by
  obtain ⟨i, hi, _, hs, _⟩ := info_parts Try.info23
  exact ⟨⟨i, hi, hs⟩, _, Try.underlying23, .inr ⟨_, rfl⟩⟩
/-- A control's cells. -/
def ctV (c : Ct) : List Value := [.int .i64 c.gen, .int .i64 c.ep, .int .i64 c.ar, .int .i64 c.tl, .int .i64 c.nm, .int .i64 c.re, .int .i64 c.lo]
def ctAgg (c : Ct) : Value := .agg #[.int .i64 c.gen, .int .i64 c.ep, .int .i64 c.ar, .int .i64 c.tl, .int .i64 c.nm, .int .i64 c.re, .int .i64 c.lo]
theorem ctAgg_eq (c : Ct) : ctAgg c = .agg (ctV c).toArray := rfl
theorem ctV_one (c : Ct) : ∀ v ∈ ctV c, v.oneCell' = true := by
  intro v hv
  simp [ctV] at hv
  rcases hv with rfl | rfl | rfl | rfl | rfl | rfl | rfl <;> rfl
theorem built23_0 : Try.prog.built 23 [] = some (ctV ct0).toArray := by rfl
theorem r_build23_0 {ρ : Operand → Value} {w : World} {dst : Option Tmp} {ty : TypeId} {pos : String} {aft : Array Edge} {gd : Option (Nat × Bool)} :
    (execOp ρ ⟨dst, .build 23 #[], ty, pos, aft, gd⟩).run Try.prog w = .ok (.value (.agg (ctV ct0).toArray)) w := by
  have hr := run_build (P := Try.prog) w 23 #[] _ (by simpa using built23_0)
  simp [execOp, hr]

set_option maxHeartbeats 1000000 in
theorem ctwithin_at (w : World) (n l m : Int) (b : Bool) (hb : decide (l ≤ n ∧ n ≤ m) = b) : Calls Try.prog 28 #[.int .i64 n, .int .i64 l, .int .i64 m] w fun e w' => e = .returned (.bool b) ∧ w = w' := by
  by_cases h1 : l ≤ n
  · by_cases h2 : n ≤ m
    · have h2' : ¬ m < n := by omega
      have hb' : b = true := by rw [← hb]; simp [h1, h2]
      subst hb'
      clear hb
      go_enter Try.func28, Try.ntmps28
      go_wp2
      go_ret
      simp
    · have h2' : m < n := by omega
      have hb' : b = false := by rw [← hb]; simp [h2']
      subst hb'
      clear hb
      go_enter Try.func28, Try.ntmps28
      go_wp2
      go_ret
      simp
  · have h1' : n < l := by omega
    have hb' : b = false := by rw [← hb]; simp; omega
    subst hb'
    clear hb
    go_enter Try.func28, Try.ntmps28
    go_wp2
    go_ret
    simp

set_option maxHeartbeats 1000000 in
theorem ctslot_at (w : World) (c : Ct) (q : Nat) (hg : 0 ≤ c.gen) (hq : c.gen % 2 = q) : Calls Try.prog 34 #[ctAgg c] w fun e w' => e = .returned (.int .i64 q) ∧ Kept (fun _ => False) w w' := by
  obtain ⟨g, e, a, t, n, r, l⟩ := c
  simp only [] at hg hq
  have ht : g.tmod 2 = q := by rw [Int.tmod_eq_emod_of_nonneg hg]; exact hq
  unfold ctAgg
  go_enter Try.func34, Try.ntmps34
  go_wp2_with (first
    | ((with_reducible refine aw_box (t := 23) (v := .agg #[.int .i64 g, .int .i64 e, .int .i64 a, .int .i64 t, .int .i64 n, .int .i64 r, .int .i64 l]) rfl ?_); intro w1 hb1 hk1 hz1; have c0 : w1.cell? ⟨w.heap.size, 0, none⟩ = some (.int .i64 g) := hb1.cell 0; clear hz1 hb1)
    | fail)
  go_ret
  exact ⟨rfl, hk1⟩

set_option maxHeartbeats 8000000 in
theorem ctright_at (w : World) (c : Ct) (r : Bool) (hr : rightC c = r) : Calls Try.prog 11 #[ctAgg c] w fun e w' => e = .returned (.bool r) ∧ Kept (fun _ => False) w w' := by
  unfold rightC at hr
  obtain ⟨b0, h0⟩ : ∃ b, decide (1 ≤ c.gen ∧ c.gen ≤ 2305843009213693952) = b := ⟨_, rfl⟩
  obtain ⟨b1, h1⟩ : ∃ b, decide (0 ≤ c.ep ∧ c.ep ≤ 4294967295) = b := ⟨_, rfl⟩
  obtain ⟨b2, h2⟩ : ∃ b, decide (0 ≤ c.ar ∧ c.ar ≤ 1) = b := ⟨_, rfl⟩
  obtain ⟨b3, h3⟩ : ∃ b, decide (1 ≤ c.tl ∧ c.tl ≤ 2147483647) = b := ⟨_, rfl⟩
  obtain ⟨b4, h4⟩ : ∃ b, decide (0 ≤ c.nm ∧ c.nm ≤ 1099511627776) = b := ⟨_, rfl⟩
  obtain ⟨b5, h5⟩ : ∃ b, decide (0 ≤ c.re ∧ c.re ≤ 2305843009213693952) = b := ⟨_, rfl⟩
  obtain ⟨b6, h6⟩ : ∃ b, decide (0 ≤ c.lo ∧ c.lo ≤ 2305843009213693952) = b := ⟨_, rfl⟩
  rw [h0, h1, h2, h3, h4, h5, h6] at hr
  have H0 := hide h0
  have H1 := hide h1
  have H2 := hide h2
  have H3 := hide h3
  have H4 := hide h4
  have H5 := hide h5
  have H6 := hide h6
  have HR := hide hr
  clear h0 h1 h2 h3 h4 h5 h6 hr
  unfold ctAgg
  go_enter Try.func11, Try.ntmps11
  go_wp2_with (first
    | ((with_reducible refine aw_box (t := 23) (v := .agg #[.int .i64 c.gen, .int .i64 c.ep, .int .i64 c.ar, .int .i64 c.tl, .int .i64 c.nm, .int .i64 c.re, .int .i64 c.lo]) rfl ?_); intro w1 hb1 hk1 hz1; have c0 : w1.cell? ⟨w.heap.size, 0, none⟩ = some (.int .i64 c.gen) := hb1.cell 0; have c1 : w1.cell? ⟨w.heap.size, 1, none⟩ = some (.int .i64 c.ep) := hb1.cell 1; have c2 : w1.cell? ⟨w.heap.size, 2, none⟩ = some (.int .i64 c.ar) := hb1.cell 2; have c3 : w1.cell? ⟨w.heap.size, 3, none⟩ = some (.int .i64 c.tl) := hb1.cell 3; have c4 : w1.cell? ⟨w.heap.size, 4, none⟩ = some (.int .i64 c.nm) := hb1.cell 4; have c5 : w1.cell? ⟨w.heap.size, 5, none⟩ = some (.int .i64 c.re) := hb1.cell 5; have c6 : w1.cell? ⟨w.heap.size, 6, none⟩ = some (.int .i64 c.lo) := hb1.cell 6; clear hz1 hb1)
    | fail)
  refine (ctwithin_at _ _ _ _ b0 H0.out).mono ?_
  rintro e w2 ⟨rfl, rfl⟩
  cases b0 with
  | false =>
    obtain rfl : r = false := by have := HR.out; simpa using this.symm
    go_wp2
    go_ret
    exact ⟨rfl, hk1⟩
  | true =>
  clear H0
  go_wp2_with fail
  refine (ctwithin_at _ _ _ _ b1 H1.out).mono ?_
  rintro e w2 ⟨rfl, rfl⟩
  cases b1 with
  | false =>
    obtain rfl : r = false := by have := HR.out; simpa using this.symm
    go_wp2
    go_ret
    exact ⟨rfl, hk1⟩
  | true =>
  clear H1
  go_wp2_with fail
  refine (ctwithin_at _ _ _ _ b2 H2.out).mono ?_
  rintro e w2 ⟨rfl, rfl⟩
  cases b2 with
  | false =>
    obtain rfl : r = false := by have := HR.out; simpa using this.symm
    go_wp2
    go_ret
    exact ⟨rfl, hk1⟩
  | true =>
  clear H2
  go_wp2_with fail
  refine (ctwithin_at _ _ _ _ b3 H3.out).mono ?_
  rintro e w2 ⟨rfl, rfl⟩
  cases b3 with
  | false =>
    obtain rfl : r = false := by have := HR.out; simpa using this.symm
    go_wp2
    go_ret
    exact ⟨rfl, hk1⟩
  | true =>
  clear H3
  go_wp2_with fail
  refine (ctwithin_at _ _ _ _ b4 H4.out).mono ?_
  rintro e w2 ⟨rfl, rfl⟩
  cases b4 with
  | false =>
    obtain rfl : r = false := by have := HR.out; simpa using this.symm
    go_wp2
    go_ret
    exact ⟨rfl, hk1⟩
  | true =>
  clear H4
  go_wp2_with fail
  refine (ctwithin_at _ _ _ _ b5 H5.out).mono ?_
  rintro e w2 ⟨rfl, rfl⟩
  cases b5 with
  | false =>
    obtain rfl : r = false := by have := HR.out; simpa using this.symm
    go_wp2
    go_ret
    exact ⟨rfl, hk1⟩
  | true =>
  clear H5
  go_wp2_with fail
  refine (ctwithin_at _ _ _ _ b6 H6.out).mono ?_
  rintro e w2 ⟨rfl, rfl⟩
  cases b6 with
  | false =>
    obtain rfl : r = false := by have := HR.out; simpa using this.symm
    go_wp2
    go_ret
    exact ⟨rfl, hk1⟩
  | true =>
  clear H6
  obtain rfl : r = true := by have := HR.out; simpa using this.symm
  go_wp2
  go_ret
  exact ⟨rfl, hk1⟩
end Go.Proofs.Ytapoagpkjngjpaa

/-
  Put, of package control.
-/
namespace Go.Proofs.Ytapoagpkjngjpaa
open Go.RowKit Go.Shelf
set_option linter.unusedSimpArgs false
set_option linter.unusedVariables false
set_option maxRecDepth 100000

section
variable {ρ : Operand → Value} {w : World} {dst : Option Tmp} {ty : TypeId} {pos : String} {aft : Array Edge} {gd : Option (Nat × Bool)} {x y z : Operand}
theorem r_f23 {b k : Nat} (hk : k < 7) (hx : ρ x = .pointer (some ⟨b, 0, none⟩)) : (execOp ρ ⟨dst, .fieldAddr 23 x k, ty, pos, aft, gd⟩).run Try.prog w = .ok (.value (.pointer (some ⟨b, k, none⟩))) w := by
  match k, hk with
  | 0, _ => go_simp
  | 1, _ => go_simp
  | 2, _ => go_simp
  | 3, _ => go_simp
  | 4, _ => go_simp
  | 5, _ => go_simp
  | 6, _ => go_simp
theorem built51c (a b : Int) (bo : Option Addr) (n k : Nat) : Try.prog.built 51 [(0, .int .i64 a), (1, .int .i64 b), (3, .int .i64 1), (4, .slice bo n k)] = some #[.int .i64 a, .int .i64 b, .int .i64 0, .int .i64 1, .slice bo n k] := by rfl
theorem r_build51c {x0 x1 x3 x4 : Operand} (c : Ct) (bo : Option Addr) (n k : Nat) (h0 : ρ x0 = .int .i64 c.gen) (h1 : ρ x1 = .int .i64 c.ep) (h3 : ρ x3 = .int .i64 1) (h4 : ρ x4 = .slice bo n k) :
    (execOp ρ ⟨dst, .build 51 #[(0, x0), (1, x1), (3, x3), (4, x4)], ty, pos, aft, gd⟩).run Try.prog w = .ok (.value (frAgg (frC c) (.slice bo n k))) w := by
  have hr := run_build (P := Try.prog) w 51 #[(0, .int .i64 c.gen), (1, .int .i64 c.ep), (3, .int .i64 1), (4, .slice bo n k)] _ (by simpa using built51c c.gen c.ep bo n k)
  simp [execOp, h0, h1, h3, h4, hr, frAgg, frC]
end
set_option maxHeartbeats 4000000 in
theorem ctput_no (w : World) (c : Ct) (hr : rightC c = false) : Calls Try.prog 12 #[ctAgg c] w fun e w' => e = .returned (.slice none 0 0) ∧ Kept (fun _ => False) w w' := by
  have HR := hide hr
  clear hr
  unfold ctAgg
  go_enter Try.func12, Try.ntmps12
  go_wp2_with (first
    | ((with_reducible refine aw_box (t := 23) (v := .agg #[.int .i64 c.gen, .int .i64 c.ep, .int .i64 c.ar, .int .i64 c.tl, .int .i64 c.nm, .int .i64 c.re, .int .i64 c.lo]) rfl ?_); intro w1 hb1 hk1 hz1)
    | (with_reducible refine aw_load (x := .tmp 1) (M := ctV c) Try.agg23 rfl hb1 (by simp [Value.cells]) rfl ?_)
    | fail)
  refine (ctright_at w1 c false HR.out).mono ?_
  rintro e w2 ⟨rfl, hk2⟩
  go_wp2
  go_ret
  exact ⟨rfl, hk1.trans hk2 (fun _ _ h => h)⟩
set_option maxHeartbeats 4000000 in
theorem ctput_at (w : World) (c : Ct) (hr : rightC c = true) :
    Calls Try.prog 12 #[ctAgg c] w fun e w' => ∃ g, e = .returned (.slice (some ⟨g, 0, none⟩) 64 64) ∧ Blk w' g (BV (putC c)) 5 ∧ w.heap.size ≤ g ∧ Kept (fun _ => False) w w' := by
  have hi := (rightC_iff c).1 hr
  obtain ⟨i66, hi66, hz66, hs66, hb66⟩ := info_parts Try.info66
  have Hi := hide hi66
  have Hz := hide hz66
  obtain ⟨A1, hA1⟩ : ∃ A, A = [] ++ numB c.ar.toNat 1 := ⟨_, rfl⟩
  obtain ⟨A2, hA2⟩ : ∃ A, A = A1 ++ numB c.tl.toNat 4 := ⟨_, rfl⟩
  obtain ⟨A3, hA3⟩ : ∃ A, A = A2 ++ numB c.nm.toNat 8 := ⟨_, rfl⟩
  obtain ⟨A4, hA4⟩ : ∃ A, A = A3 ++ numB c.re.toNat 8 := ⟨_, rfl⟩
  obtain ⟨A5, hA5⟩ : ∃ A, A = A4 ++ numB c.lo.toNat 8 := ⟨_, rfl⟩
  have l1 : A1.length = 1 := by rw [hA1]; simp [numB_length]
  have l2 : A2.length = 5 := by rw [hA2]; simp [numB_length, l1]
  have l3 : A3.length = 13 := by rw [hA3]; simp [numB_length, l2]
  have l4 : A4.length = 21 := by rw [hA4]; simp [numB_length, l3]
  have hh : A5 = bodyC c := by
    rw [hA5, hA4, hA3, hA2, hA1]
    simp [bodyC]
  have F1 := hide (fits_fr (n := c.ar) (m := 1) (by decide) (by decide) (by omega) (by simp; omega))
  have F2 := hide (fits_fr (n := c.tl) (m := 4) (by decide) (by decide) (by omega) (by simp; omega))
  have F3 := hide (fits_fr (n := c.nm) (m := 8) (by decide) (by decide) (by omega) (by simp; omega))
  have F4 := hide (fits_fr (n := c.re) (m := 8) (by decide) (by decide) (by omega) (by simp; omega))
  have F5 := hide (fits_fr (n := c.lo) (m := 8) (by decide) (by decide) (by omega) (by simp; omega))
  have H1 := hide hA1
  have H2 := hide hA2
  have H3 := hide hA3
  have H4 := hide hA4
  have H5 := hide hA5
  have L1 := hide l1
  have L2 := hide l2
  have L3 := hide l3
  have L4 := hide l4
  have HH := hide hh
  have HR := hide hr
  have HRi := hide (frC_right hr)
  have HI := hide hi
  have HL : Hid ((frC c).B.length = 29) := hide (bodyC_length c)
  have HBy : Hid (∀ u, Pn w u (w.heap.size + 0) A5 → True) := hide (fun _ _ => trivial)
  clear HBy
  clear hi66 hz66 hs66 hb66 hA1 hA2 hA3 hA4 hA5 l1 l2 l3 l4 hh hr hi
  unfold ctAgg
  go_enter Try.func12, Try.ntmps12
  go_wp2_with (first
    | ((with_reducible refine aw_box (t := 23) (v := .agg #[.int .i64 c.gen, .int .i64 c.ep, .int .i64 c.ar, .int .i64 c.tl, .int .i64 c.nm, .int .i64 c.re, .int .i64 c.lo]) rfl ?_); intro w1 hb1 hk1 hz1)
    | (with_reducible refine aw_load (x := .tmp 1) (M := ctV c) Try.agg23 rfl hb1 (by simp [Value.cells]) rfl ?_)
    | fail)
  refine (ctright_at w1 c true HR.out).mono ?_
  rintro e w2 ⟨rfl, hk2⟩
  have HB2 : Hid (Blk w2 w.heap.size (ctV c) 23) := hide (hk2.blk hb1 (fun h => h))
  have HK2 := hide (hk1.trans hk2 (fun _ _ h => h))
  clear hb1 hk1 hz1 hk2
  obtain ⟨b1, hbe⟩ : ∃ b1, b1 = w.heap.size := ⟨_, rfl⟩
  rw [← hbe] at HB2 ⊢
  clear hbe
  have d2 : w2.cell? ⟨b1, 2, none⟩ = some (.int .i64 c.ar) := HB2.out.cell 2
  go_wp2_with (first
    | ((with_reducible refine aw_alloc (t := 66) Hi.out Hz.out ?_); intro w3 hb3 hk3 hz3; have HP3 : Hid (Pn w2 w3 w2.heap.size []) := hide ⟨Nat.le_refl _, hk3, _, pen_new hb3, fun k h => by simp [Value.ownBlock] at h⟩; have c2 : w3.cell? ⟨b1, 2, none⟩ = some (.int .i64 c.ar) := (hk3.blk HB2.out (fun h => h)).cell 2; clear hz3 hb3 hk3)
    | fail)
  obtain ⟨p, hp⟩ : ∃ p, p = w2.heap.size := ⟨_, rfl⟩
  rw [← hp] at HP3 ⊢
  clear hp d2
  refine (number_fit w2 w3 p [] A1 HP3.out (by simp) c.ar 1 (by have := HI.out; omega) F1.out H1.out).mono ?_
  rintro e w4 ⟨rfl, hp4⟩
  have c3 : w4.cell? ⟨b1, 3, none⟩ = some (.int .i64 c.tl) := (hp4.base.blk HB2.out (fun h => h)).cell 3
  have HP4 := hide hp4
  clear HP3 hp4 c2
  go_wp2_with fail
  refine (number_fit w2 w4 p A1 A2 HP4.out (by rw [L1.out]; decide) c.tl 4 (by have := HI.out; omega) F2.out H2.out).mono ?_
  rintro e w5 ⟨rfl, hp5⟩
  have c4 : w5.cell? ⟨b1, 4, none⟩ = some (.int .i64 c.nm) := (hp5.base.blk HB2.out (fun h => h)).cell 4
  have HP5 := hide hp5
  clear HP4 hp5 c3
  go_wp2_with fail
  refine (number_fit w2 w5 p A2 A3 HP5.out (by rw [L2.out]; decide) c.nm 8 (by have := HI.out; omega) F3.out H3.out).mono ?_
  rintro e w6 ⟨rfl, hp6⟩
  have c5 : w6.cell? ⟨b1, 5, none⟩ = some (.int .i64 c.re) := (hp6.base.blk HB2.out (fun h => h)).cell 5
  have HP6 := hide hp6
  clear HP5 hp6 c4
  go_wp2_with fail
  refine (number_fit w2 w6 p A3 A4 HP6.out (by rw [L3.out]; decide) c.re 8 (by have := HI.out; omega) F4.out H4.out).mono ?_
  rintro e w7 ⟨rfl, hp7⟩
  have c6 : w7.cell? ⟨b1, 6, none⟩ = some (.int .i64 c.lo) := (hp7.base.blk HB2.out (fun h => h)).cell 6
  have HP7 := hide hp7
  clear HP6 hp7 c5
  go_wp2_with fail
  refine (number_fit w2 w7 p A4 A5 HP7.out (by rw [L4.out]; decide) c.lo 8 (by have := HI.out; omega) F5.out H5.out).mono ?_
  rintro e w8 ⟨rfl, hp8⟩
  have HP8 := hide hp8
  have HB8 := hide (hp8.base.blk HB2.out (fun h => h))
  rw [HH.out] at HP8
  have HBy : Hid (∀ u, Pn w2 u p (bodyC c) → Calls Try.prog 31 #[.pointer (some ⟨p, 0, none⟩)] u fun e w' => ∃ v', e = .returned v' ∧ Src w' v' (frC c).B ∧ Kept (fun _ => False) u w') := hide (fun u h => by
    obtain ⟨-, -, v, hv, -⟩ := h
    exact bytes_at u p v (bodyC c) hv (by rw [bodyC_length]; decide))
  clear HP7 hp8 c6
  go_wp2_with fail
  refine hold_frame (p := fun fr => Code.wp Try.prog _ _ fr _) ?_
  intro fr hfr
  have e1 : fr.eval (.tmp 1) = .pointer (some ⟨b1, 0, none⟩) := by rw [hfr.out]; rfl
  have e3 : fr.eval (.tmp 3) = .pointer (some ⟨p, 0, none⟩) := by rw [hfr.out]; rfl
  have hts : fr.tmps.size = 29 := by rw [hfr.out]; rfl
  refine region_S0 99 Try.mixed ?_
  intro w0 hkw hheap
  have HB0 := hide (hkw.blk HB8.out (fun h => h))
  have HP0 := hide (HP8.out.kept hkw)
  have hS0 : Kept (fun _ => False) w0 w0 := Kept.refl (fun _ => False) w0
  refine ⟨Kept (fun _ => False) w0, ?_⟩
  refine tkS 0 22 (v := .pointer (some ⟨b1, 0, none⟩)) hS0 rfl rfl (by kernel_rfl) (by kernel_rfl) (by kernel_rfl) (by kernel_rfl) (wanted_none rfl) (fun _ _ _ h => h) (fun U hU => r_f23 (b := b1) (k := 0) (by decide) (by simp [eval_put_ne, eval_put_eq, size_put, hts, e1])) ?_
  refine tkS 1 23 (v := .int .i64 c.gen) hS0 rfl rfl (by kernel_rfl) (by kernel_rfl) (by kernel_rfl) (by kernel_rfl) (wanted_none rfl) (fun _ _ _ h => h) (fun U hU => r_ld3 (b := b1) (o := 0) (by simp [eval_put_ne, eval_put_eq, size_put, hts]) ((((hS0).trans hU (fun _ _ h => h)).blk HB0.out (fun h => h)).cell 0)) ?_
  refine tkS 2 24 (v := .pointer (some ⟨b1, 1, none⟩)) hS0 rfl rfl (by kernel_rfl) (by kernel_rfl) (by kernel_rfl) (by kernel_rfl) (wanted_none rfl) (fun _ _ _ h => h) (fun U hU => r_f23 (b := b1) (k := 1) (by decide) (by simp [eval_put_ne, eval_put_eq, size_put, hts, e1])) ?_
  refine tkS 3 25 (v := .int .i64 c.ep) hS0 rfl rfl (by kernel_rfl) (by kernel_rfl) (by kernel_rfl) (by kernel_rfl) (wanted_none rfl) (fun _ _ _ h => h) (fun U hU => r_ld3 (b := b1) (o := 1) (by simp [eval_put_ne, eval_put_eq, size_put, hts]) ((((hS0).trans hU (fun _ _ h => h)).blk HB0.out (fun h => h)).cell 1)) ?_
  refine oneCS 4 26 (by kernel_rfl) rfl rfl (wanted_none rfl) (r_call1 Try.func31 (by kernel_rfl) rfl rfl (by simp [eval_put_ne, eval_put_eq, size_put, hts, e3])) (HBy.out w0 HP0.out) ?_
  rintro e v1 ⟨vb, rfl, hs1, k1⟩
  obtain ⟨bo, cb, rfl⟩ := hs1.slice
  rw [HL.out] at hs1 ⊢
  refine ⟨_, rfl, k1, ?_⟩
  refine tkS 5 27 (v := frAgg (frC c) (.slice bo 29 cb)) k1 rfl rfl (by kernel_rfl) (by kernel_rfl) (by kernel_rfl) (by kernel_rfl) (wanted_none rfl) (fun _ _ _ h => h) (fun U hU => r_build51c c bo 29 cb (by simp [eval_put_ne, eval_put_eq, size_put, hts]) (by simp [eval_put_ne, eval_put_eq, size_put, hts]) rfl (by simp [eval_put_ne, eval_put_eq, size_put, hts])) ?_
  refine oneCS 6 28 (by kernel_rfl) rfl rfl (wanted_none rfl) (r_call1 Try.func30 (by kernel_rfl) rfl rfl (by simp [eval_put_ne, eval_put_eq, size_put, hts])) (put_at v1 (frC c) (.slice bo 29 cb) hs1 HRi.out) ?_
  rintro e v2 ⟨g, rfl, hb2, hg2, k2⟩
  have kk := k1.trans k2 (fun _ _ h => h)
  refine ⟨_, rfl, kk, ?_⟩
  refine tkS 7 2 (v := .slice (some ⟨g, 0, none⟩) 64 64) kk rfl rfl (by kernel_rfl) (by kernel_rfl) (by kernel_rfl) (by kernel_rfl) (wanted_none rfl) (fun _ _ _ h => h) (fun U hU => r_assign (by simp [eval_put_ne, eval_put_eq, size_put, hts])) ?_
  refine doneS (by kernel_rfl) ?_
  rw [hfr.out]
  clear hfr e1 e3 hts
  simp only [put_lit, put_none, List.set_cons_succ, List.set_cons_zero]

  have HKw := hide ((HK2.out.trans HP8.out.base (fun _ _ h => h)).trans hkw (fun _ _ h => h))
  have Hb2 := hide hb2
  have Hg2 := hide hg2
  have Hkk := hide kk
  have Hk1 := hide k1
  clear hb2 hg2 kk k1 k2 hs1 hS0 hkw hheap HB0 HP0
  go_wp2
  go_ret
  refine ⟨g, rfl, Hb2.out, ?_, HKw.out.trans Hkk.out (fun _ _ h => h)⟩
  have := HKw.out.size
  have := Hk1.out.size
  have := Hg2.out
  omega
end Go.Proofs.Ytapoagpkjngjpaa
