/-
  The walk of CrcTells: it answers true, and touches nothing that was there.
-/
import Derived.Test.YteacfkbchgjcbaaTellsA
namespace Go.Proofs.Yteacfkbchgjcbaa
open Go.RowKit Go.Shelf
set_option linter.unusedSimpArgs false
set_option linter.unusedVariables false

set_option maxRecDepth 100000 in
set_option maxHeartbeats 8000000 in
theorem tells_more (w : World) (va vb : Value) (A B : List Nat) (ha : Src w va A) (hb : Src w vb B) (was : Nat) (hwas : was < 4294967296) (hl : A.length + B.length ≤ 3000) (h3 : 3 < B.length) :
    Calls Try.prog 3 #[va, vb, .int .u32 was] w fun e w' => e = .returned (.bool true) ∧ Kept (fun _ => False) w w' := by
  have HG : Hid (goodN B = decide (strN (markN B) = strN B)) := hide (by
    rw [goodN_iff B hb.lt, Bool.eq_iff_iff]
    simp only [Bool.and_eq_true, decide_eq_true_eq]
    rw [strN_iff (markN_lt B hb.lt) hb.lt]
    exact ⟨fun h => h.2, fun h => ⟨h3, h⟩⟩)
  have HGT : Hid (decide ((3 : Int) < (B.length : Int)) = true) := hide (by rw [decide_eq_true_eq]; omega)
  have HJ : Hid (joinN (joinN 0 A) B = joinN 0 (A ++ B)) := hide (joinN_join 0 A B (by decide) ha.lt)
  have HA := hide ha
  have HB := hide hb
  obtain ⟨ba, ca, rfl, hca, _, _, _⟩ := ha
  obtain ⟨bb, cb, rfl, hcb, _, _, _⟩ := hb
  have hsum : IntKind.i64.wrap ((A.length : Int) + (B.length : Int)) = (A.length : Int) + (B.length : Int) := by rw [IntKind.wrap_i64]; omega
  have hlI : ¬ ((3000 : Int) < (A.length : Int) + (B.length : Int)) := by omega
  go_enter Try.func3, Try.ntmps3
  go_wp2_with fail
  refine (first_any w).mono ?_
  rintro e w1 ⟨rfl, hk1⟩
  go_wp2_with fail
  clear hsum hlI
  refine hold_frame (p := fun fr => Code.wp Try.prog _ _ fr _) ?_
  intro fr hfr
  have e0 : fr.eval (.tmp 0) = .slice ba A.length ca := by rw [hfr.out]; rfl
  have e1 : fr.eval (.tmp 1) = .slice bb B.length cb := by rw [hfr.out]; rfl
  have e2 : fr.eval (.tmp 2) = .int .u32 (was : Int) := by rw [hfr.out]; rfl
  have hts : fr.tmps.size = 65 := by rw [hfr.out]; rfl
  refine region_kept Try.mixed ?_
  intro w0 hkw hheap
  have hk0 := Kept.refl (fun _ => False) w0
  have hA0 := HA.out.kept (hk1.trans hkw (fun _ _ h => h))
  have hB0 := HB.out.kept (hk1.trans hkw (fun _ _ h => h))
  refine tkK 0 15 (v := .slice ba A.length ca) hk0 rfl rfl (by kernel_rfl) (by kernel_rfl) (by kernel_rfl) (wanted_none rfl) (fun _ _ _ h => h) (fun U hU => r_move (by simp [eval_put_ne, eval_put_eq, size_put, hts, e0])) ?_
  refine tkK 2 17 (v := .slice ba A.length ca) hk0 rfl rfl (by kernel_rfl) (by kernel_rfl) (by kernel_rfl) (wanted_none rfl) (fun _ _ _ h => h) (fun U hU => r_move (by simp [eval_put_ne, eval_put_eq, size_put, hts, e0])) ?_
  refine oneC 1 16 (by kernel_rfl) rfl rfl (wanted_none rfl) (r_call1 Try.func7 (by kernel_rfl) rfl rfl (by simp [eval_put_ne, eval_put_eq, size_put, hts])) (sum_at w0 _ A hA0 (by omega)) ?_
  rintro e w9 ⟨rfl, rfl⟩
  refine ⟨_, rfl, hk0, ?_⟩
  refine oneC 3 18 (by kernel_rfl) rfl rfl (wanted_none rfl) (r_call2 Try.func8 (by kernel_rfl) rfl rfl rfl (by simp [eval_put_ne, eval_put_eq, size_put, hts])) (refJoin_at w0 0 (by decide) _ A hA0 (by omega)) ?_
  rintro e w9 ⟨rfl, rfl⟩
  refine ⟨_, rfl, hk0, ?_⟩
  refine tkK 4 19 (v := .bool true) hk0 rfl rfl (by kernel_rfl) (by kernel_rfl) (by kernel_rfl) (wanted_none rfl) (fun _ _ _ h => h) (fun U hU => (r_eql23 (p := joinN 0 A) (q := joinN 0 A) (by simp [eval_put_ne, eval_put_eq, size_put, hts]) (by simp [eval_put_ne, eval_put_eq, size_put, hts])).trans (by simp)) ?_
  refine tkK 5 20 (v := .bool true) hk0 rfl rfl (by kernel_rfl) (by kernel_rfl) (by kernel_rfl) (wanted_none rfl) (fun _ _ _ h => h) (fun U hU => r_move (by simp [eval_put_ne, eval_put_eq, size_put, hts])) ?_
  refine tkK 6 21 (v := .int .u32 (was : Int)) hk0 rfl rfl (by kernel_rfl) (by kernel_rfl) (by kernel_rfl) (wanted_some (j := 5) (d := 20) (bb := true) rfl rfl rfl (by simp [eval_put_ne, eval_put_eq, size_put, hts]) (by simp [size_put, hts])) (fun _ _ _ h => h) (fun U hU => r_move (by simp [eval_put_ne, eval_put_eq, size_put, hts, e2])) ?_
  refine tkK 7 22 (v := .slice bb B.length cb) hk0 rfl rfl (by kernel_rfl) (by kernel_rfl) (by kernel_rfl) (wanted_some (j := 5) (d := 20) (bb := true) rfl rfl rfl (by simp [eval_put_ne, eval_put_eq, size_put, hts]) (by simp [size_put, hts])) (fun _ _ _ h => h) (fun U hU => r_move (by simp [eval_put_ne, eval_put_eq, size_put, hts, e1])) ?_
  refine tkK 9 24 (v := .int .u32 (was : Int)) hk0 rfl rfl (by kernel_rfl) (by kernel_rfl) (by kernel_rfl) (wanted_some (j := 5) (d := 20) (bb := true) rfl rfl rfl (by simp [eval_put_ne, eval_put_eq, size_put, hts]) (by simp [size_put, hts])) (fun _ _ _ h => h) (fun U hU => r_move (by simp [eval_put_ne, eval_put_eq, size_put, hts, e2])) ?_
  refine tkK 10 25 (v := .slice bb B.length cb) hk0 rfl rfl (by kernel_rfl) (by kernel_rfl) (by kernel_rfl) (wanted_some (j := 5) (d := 20) (bb := true) rfl rfl rfl (by simp [eval_put_ne, eval_put_eq, size_put, hts]) (by simp [size_put, hts])) (fun _ _ _ h => h) (fun U hU => r_move (by simp [eval_put_ne, eval_put_eq, size_put, hts, e1])) ?_
  refine oneC 8 23 (by kernel_rfl) rfl rfl (wanted_some (j := 5) (d := 20) (bb := true) rfl rfl rfl (by simp [eval_put_ne, eval_put_eq, size_put, hts]) (by simp [size_put, hts])) (r_call2 Try.func9 (by kernel_rfl) rfl rfl (by simp [eval_put_ne, eval_put_eq, size_put, hts]) (by simp [eval_put_ne, eval_put_eq, size_put, hts])) (join_at w0 was hwas _ B hB0 (by omega)) ?_
  rintro e w9 ⟨rfl, rfl⟩
  refine ⟨_, rfl, hk0, ?_⟩
  refine oneC 11 26 (by kernel_rfl) rfl rfl (wanted_some (j := 5) (d := 20) (bb := true) rfl rfl rfl (by simp [eval_put_ne, eval_put_eq, size_put, hts]) (by simp [size_put, hts])) (r_call2 Try.func8 (by kernel_rfl) rfl rfl (by simp [eval_put_ne, eval_put_eq, size_put, hts]) (by simp [eval_put_ne, eval_put_eq, size_put, hts])) (refJoin_at w0 was hwas _ B hB0 (by omega)) ?_
  rintro e w9 ⟨rfl, rfl⟩
  refine ⟨_, rfl, hk0, ?_⟩
  refine tkK 12 27 (v := .bool true) hk0 rfl rfl (by kernel_rfl) (by kernel_rfl) (by kernel_rfl) (wanted_some (j := 5) (d := 20) (bb := true) rfl rfl rfl (by simp [eval_put_ne, eval_put_eq, size_put, hts]) (by simp [size_put, hts])) (fun _ _ _ h => h) (fun U hU => (r_eql23 (p := joinN was B) (q := joinN was B) (by simp [eval_put_ne, eval_put_eq, size_put, hts]) (by simp [eval_put_ne, eval_put_eq, size_put, hts])).trans (by simp)) ?_
  refine tkK 13 28 (v := .bool true) hk0 rfl rfl (by kernel_rfl) (by kernel_rfl) (by kernel_rfl) (wanted_none rfl) (fun _ _ _ h => h) (fun U hU => r_pick (by simp [eval_put_ne, eval_put_eq, size_put, hts]) (by simp [eval_put_ne, eval_put_eq, size_put, hts])) ?_
  refine tkK 14 29 (v := .bool true) hk0 rfl rfl (by kernel_rfl) (by kernel_rfl) (by kernel_rfl) (wanted_none rfl) (fun _ _ _ h => h) (fun U hU => r_move (by simp [eval_put_ne, eval_put_eq, size_put, hts])) ?_
  refine tkK 15 30 (v := .slice ba A.length ca) hk0 rfl rfl (by kernel_rfl) (by kernel_rfl) (by kernel_rfl) (wanted_some (j := 14) (d := 29) (bb := true) rfl rfl rfl (by simp [eval_put_ne, eval_put_eq, size_put, hts]) (by simp [size_put, hts])) (fun _ _ _ h => h) (fun U hU => r_move (by simp [eval_put_ne, eval_put_eq, size_put, hts, e0])) ?_
  refine tkK 18 33 (v := .slice ba A.length ca) hk0 rfl rfl (by kernel_rfl) (by kernel_rfl) (by kernel_rfl) (wanted_some (j := 14) (d := 29) (bb := true) rfl rfl rfl (by simp [eval_put_ne, eval_put_eq, size_put, hts]) (by simp [size_put, hts])) (fun _ _ _ h => h) (fun U hU => r_move (by simp [eval_put_ne, eval_put_eq, size_put, hts, e0])) ?_
  refine oneC 16 31 (by kernel_rfl) rfl rfl (wanted_some (j := 14) (d := 29) (bb := true) rfl rfl rfl (by simp [eval_put_ne, eval_put_eq, size_put, hts]) (by simp [size_put, hts])) (r_call1 Try.func10 (by kernel_rfl) rfl rfl (by simp [eval_put_ne, eval_put_eq, size_put, hts])) (mark_at w0 _ A hA0 (by omega)) ?_
  rintro e w2 ⟨gm, rfl, hgm, hglt, hk2⟩
  refine ⟨_, rfl, hk2, ?_⟩
  refine raise hk2 ?_
  have hr1 := Kept.refl (fun _ => False) w2
  have hA1 := hA0.kept hk2
  have hB1 := hB0.kept hk2
  have hsm := blk_src (markN A) hgm (markN_lt A hA0.lt)
  rw [markN_length] at hsm
  refine tkK 17 32 (v := .string (strN (markN A))) hr1 rfl rfl (by kernel_rfl) (by kernel_rfl) (by kernel_rfl) (wanted_some (j := 14) (d := 29) (bb := true) rfl rfl rfl (by simp [eval_put_ne, eval_put_eq, size_put, hts]) (by simp [size_put, hts])) (fun _ _ _ h => h) (fun U hU => r_strS (v := .slice (some ⟨gm, 0, none⟩) A.length A.length) (by simp [eval_put_ne, eval_put_eq, size_put, hts]) (hsm.kept hU)) ?_
  refine oneC 19 34 (by kernel_rfl) rfl rfl (wanted_some (j := 14) (d := 29) (bb := true) rfl rfl rfl (by simp [eval_put_ne, eval_put_eq, size_put, hts]) (by simp [size_put, hts])) (r_call1 Try.func11 (by kernel_rfl) rfl rfl (by simp [eval_put_ne, eval_put_eq, size_put, hts])) (refMark_at w2 _ A hA1 (by omega)) ?_
  rintro e w3 ⟨rfl, hk3⟩
  refine ⟨_, rfl, hk3, ?_⟩
  refine raise hk3 ?_
  have hr2 := Kept.refl (fun _ => False) w3
  have hA2 := hA1.kept hk3
  have hB2 := hB1.kept hk3
  refine tkK 20 35 (v := .bool true) hr2 rfl rfl (by kernel_rfl) (by kernel_rfl) (by kernel_rfl) (wanted_some (j := 14) (d := 29) (bb := true) rfl rfl rfl (by simp [eval_put_ne, eval_put_eq, size_put, hts]) (by simp [size_put, hts])) (fun _ _ _ h => h) (fun U hU => (r_eql9 (p := strN (markN A)) (q := strN (markN A)) (by simp [eval_put_ne, eval_put_eq, size_put, hts]) (by simp [eval_put_ne, eval_put_eq, size_put, hts])).trans (by simp)) ?_
  refine tkK 21 36 (v := .bool true) hr2 rfl rfl (by kernel_rfl) (by kernel_rfl) (by kernel_rfl) (wanted_none rfl) (fun _ _ _ h => h) (fun U hU => r_pick (by simp [eval_put_ne, eval_put_eq, size_put, hts]) (by simp [eval_put_ne, eval_put_eq, size_put, hts])) ?_
  refine tkK 22 37 (v := .bool true) hr2 rfl rfl (by kernel_rfl) (by kernel_rfl) (by kernel_rfl) (wanted_none rfl) (fun _ _ _ h => h) (fun U hU => r_move (by simp [eval_put_ne, eval_put_eq, size_put, hts])) ?_
  refine tkK 23 38 (v := .slice bb B.length cb) hr2 rfl rfl (by kernel_rfl) (by kernel_rfl) (by kernel_rfl) (wanted_some (j := 22) (d := 37) (bb := true) rfl rfl rfl (by simp [eval_put_ne, eval_put_eq, size_put, hts]) (by simp [size_put, hts])) (fun _ _ _ h => h) (fun U hU => r_move (by simp [eval_put_ne, eval_put_eq, size_put, hts, e1])) ?_
  refine tkK 25 40 (v := .slice bb B.length cb) hr2 rfl rfl (by kernel_rfl) (by kernel_rfl) (by kernel_rfl) (wanted_some (j := 22) (d := 37) (bb := true) rfl rfl rfl (by simp [eval_put_ne, eval_put_eq, size_put, hts]) (by simp [size_put, hts])) (fun _ _ _ h => h) (fun U hU => r_move (by simp [eval_put_ne, eval_put_eq, size_put, hts, e1])) ?_
  refine tkK 26 41 (v := .int .i64 (B.length : Int)) hr2 rfl rfl (by kernel_rfl) (by kernel_rfl) (by kernel_rfl) (wanted_some (j := 22) (d := 37) (bb := true) rfl rfl rfl (by simp [eval_put_ne, eval_put_eq, size_put, hts]) (by simp [size_put, hts])) (fun _ _ _ h => h) (fun U hU => r_len22 (ao := bb) (l := B.length) (c := cb) (by simp [eval_put_ne, eval_put_eq, size_put, hts])) ?_
  refine tkK 27 42 (v := .bool true) hr2 rfl rfl (by kernel_rfl) (by kernel_rfl) (by kernel_rfl) (wanted_some (j := 22) (d := 37) (bb := true) rfl rfl rfl (by simp [eval_put_ne, eval_put_eq, size_put, hts]) (by simp [size_put, hts])) (fun _ _ _ h => h) (fun U hU => (r_gtr3 (p := (B.length : Int)) (q := 3) (by simp [eval_put_ne, eval_put_eq, size_put, hts]) rfl).trans (by rw [HGT.out])) ?_
  refine oneC 24 39 (by kernel_rfl) rfl rfl (wanted_some (j := 22) (d := 37) (bb := true) rfl rfl rfl (by simp [eval_put_ne, eval_put_eq, size_put, hts]) (by simp [size_put, hts])) (r_call1 Try.func12 (by kernel_rfl) rfl rfl (by simp [eval_put_ne, eval_put_eq, size_put, hts])) (good_at w3 _ B hB2 (by omega)) ?_
  rintro e w4 ⟨rfl, hk4⟩
  refine ⟨_, rfl, hk4, ?_⟩
  refine raise hk4 ?_
  have hr3 := Kept.refl (fun _ => False) w4
  have hA3 := hA2.kept hk4
  have hB3 := hB2.kept hk4
  refine tkK 28 43 (v := .bool true) hr3 rfl rfl (by kernel_rfl) (by kernel_rfl) (by kernel_rfl) (wanted_some (j := 22) (d := 37) (bb := true) rfl rfl rfl (by simp [eval_put_ne, eval_put_eq, size_put, hts]) (by simp [size_put, hts])) (fun _ _ _ h => h) (fun U hU => r_move (by simp [eval_put_ne, eval_put_eq, size_put, hts])) ?_
  refine tkK 29 44 (v := .slice bb B.length cb) hr3 rfl rfl (by kernel_rfl) (by kernel_rfl) (by kernel_rfl) (wanted_some (j := 28) (d := 43) (bb := true) rfl rfl rfl (by simp [eval_put_ne, eval_put_eq, size_put, hts]) (by simp [size_put, hts])) (fun _ _ _ h => h) (fun U hU => r_move (by simp [eval_put_ne, eval_put_eq, size_put, hts, e1])) ?_
  refine tkK 31 46 (v := .slice bb B.length cb) hr3 rfl rfl (by kernel_rfl) (by kernel_rfl) (by kernel_rfl) (wanted_some (j := 28) (d := 43) (bb := true) rfl rfl rfl (by simp [eval_put_ne, eval_put_eq, size_put, hts]) (by simp [size_put, hts])) (fun _ _ _ h => h) (fun U hU => r_move (by simp [eval_put_ne, eval_put_eq, size_put, hts, e1])) ?_
  refine tkK 32 47 (v := .string (strN B)) hr3 rfl rfl (by kernel_rfl) (by kernel_rfl) (by kernel_rfl) (wanted_some (j := 28) (d := 43) (bb := true) rfl rfl rfl (by simp [eval_put_ne, eval_put_eq, size_put, hts]) (by simp [size_put, hts])) (fun _ _ _ h => h) (fun U hU => r_strS (v := .slice bb B.length cb) (by simp [eval_put_ne, eval_put_eq, size_put, hts]) (hB3.kept hU)) ?_
  refine oneC 30 45 (by kernel_rfl) rfl rfl (wanted_some (j := 28) (d := 43) (bb := true) rfl rfl rfl (by simp [eval_put_ne, eval_put_eq, size_put, hts]) (by simp [size_put, hts])) (r_call1 Try.func11 (by kernel_rfl) rfl rfl (by simp [eval_put_ne, eval_put_eq, size_put, hts])) (refMark_at w4 _ B hB3 (by omega)) ?_
  rintro e w5 ⟨rfl, hk5⟩
  refine ⟨_, rfl, hk5, ?_⟩
  refine raise hk5 ?_
  have hr4 := Kept.refl (fun _ => False) w5
  have hA4 := hA3.kept hk5
  have hB4 := hB3.kept hk5
  refine tkK 33 48 (v := .bool (decide (strN (markN B) = strN B))) hr4 rfl rfl (by kernel_rfl) (by kernel_rfl) (by kernel_rfl) (wanted_some (j := 28) (d := 43) (bb := true) rfl rfl rfl (by simp [eval_put_ne, eval_put_eq, size_put, hts]) (by simp [size_put, hts])) (fun _ _ _ h => h) (fun U hU => r_eql9 (p := strN (markN B)) (q := strN B) (by simp [eval_put_ne, eval_put_eq, size_put, hts]) (by simp [eval_put_ne, eval_put_eq, size_put, hts])) ?_
  refine tkK 34 49 (v := .bool (decide (strN (markN B) = strN B))) hr4 rfl rfl (by kernel_rfl) (by kernel_rfl) (by kernel_rfl) (wanted_some (j := 22) (d := 37) (bb := true) rfl rfl rfl (by simp [eval_put_ne, eval_put_eq, size_put, hts]) (by simp [size_put, hts])) (fun _ _ _ h => h) (fun U hU => r_pick (by simp [eval_put_ne, eval_put_eq, size_put, hts]) (by simp [eval_put_ne, eval_put_eq, size_put, hts])) ?_
  refine tkK 35 50 (v := .bool true) hr4 rfl rfl (by kernel_rfl) (by kernel_rfl) (by kernel_rfl) (wanted_some (j := 22) (d := 37) (bb := true) rfl rfl rfl (by simp [eval_put_ne, eval_put_eq, size_put, hts]) (by simp [size_put, hts])) (fun _ _ _ h => h) (fun U hU => (r_eql4 (p := goodN B) (q := decide (strN (markN B) = strN B)) (by simp [eval_put_ne, eval_put_eq, size_put, hts]) (by simp [eval_put_ne, eval_put_eq, size_put, hts])).trans (by rw [HG.out]; simp)) ?_
  refine tkK 36 51 (v := .bool true) hr4 rfl rfl (by kernel_rfl) (by kernel_rfl) (by kernel_rfl) (wanted_none rfl) (fun _ _ _ h => h) (fun U hU => r_pick (by simp [eval_put_ne, eval_put_eq, size_put, hts]) (by simp [eval_put_ne, eval_put_eq, size_put, hts])) ?_
  refine tkK 37 52 (v := .bool true) hr4 rfl rfl (by kernel_rfl) (by kernel_rfl) (by kernel_rfl) (wanted_none rfl) (fun _ _ _ h => h) (fun U hU => r_move (by simp [eval_put_ne, eval_put_eq, size_put, hts])) ?_
  refine tkK 38 53 (v := .slice ba A.length ca) hr4 rfl rfl (by kernel_rfl) (by kernel_rfl) (by kernel_rfl) (wanted_some (j := 37) (d := 52) (bb := true) rfl rfl rfl (by simp [eval_put_ne, eval_put_eq, size_put, hts]) (by simp [size_put, hts])) (fun _ _ _ h => h) (fun U hU => r_move (by simp [eval_put_ne, eval_put_eq, size_put, hts, e0])) ?_
  refine tkK 40 55 (v := .slice bb B.length cb) hr4 rfl rfl (by kernel_rfl) (by kernel_rfl) (by kernel_rfl) (wanted_some (j := 37) (d := 52) (bb := true) rfl rfl rfl (by simp [eval_put_ne, eval_put_eq, size_put, hts]) (by simp [size_put, hts])) (fun _ _ _ h => h) (fun U hU => r_move (by simp [eval_put_ne, eval_put_eq, size_put, hts, e1])) ?_
  refine tkK 43 58 (v := .slice ba A.length ca) hr4 rfl rfl (by kernel_rfl) (by kernel_rfl) (by kernel_rfl) (wanted_some (j := 37) (d := 52) (bb := true) rfl rfl rfl (by simp [eval_put_ne, eval_put_eq, size_put, hts]) (by simp [size_put, hts])) (fun _ _ _ h => h) (fun U hU => r_move (by simp [eval_put_ne, eval_put_eq, size_put, hts, e0])) ?_
  refine tkK 45 60 (v := .slice bb B.length cb) hr4 rfl rfl (by kernel_rfl) (by kernel_rfl) (by kernel_rfl) (wanted_some (j := 37) (d := 52) (bb := true) rfl rfl rfl (by simp [eval_put_ne, eval_put_eq, size_put, hts]) (by simp [size_put, hts])) (fun _ _ _ h => h) (fun U hU => r_move (by simp [eval_put_ne, eval_put_eq, size_put, hts, e1])) ?_
  have hkU := Kept.alloc (fun _ => False) w5 (.cells #[] 5)
  have hoU := Own.new w5
  have hAU := hA4.kept hkU
  have hBU := hB4.kept hkU
  have hkAll : Kept (fun _ => False) w w5 := ((((hk1.trans hkw (fun _ _ h => h)).trans hk2 (fun _ _ h => h)).trans hk3 (fun _ _ h => h)).trans hk4 (fun _ _ h => h)).trans hk5 (fun _ _ h => h)
  refine twoCV 39 54 42 57 (v := .slice (some ⟨w5.heap.size, 0, none⟩) 0 0) (w' := (w5.alloc (.cells #[] 5))) (by kernel_rfl) rfl rfl (wanted_some (j := 37) (d := 52) (bb := true) rfl rfl rfl (by simp [eval_put_ne, eval_put_eq, size_put, hts]) (by simp [size_put, hts])) (r_call1 Try.func7 (by kernel_rfl) rfl rfl (by simp [eval_put_ne, eval_put_eq, size_put, hts])) (sum_at w5 _ A hA4 (by omega)) ?_ rfl rfl (wanted_some (j := 37) (d := 52) (bb := true) rfl rfl rfl (by simp [eval_put_ne, eval_put_eq, size_put, hts]) (by simp [size_put, hts])) (r_bs22 [] rfl (by decide) rfl) hkU ?_
  · skip
    rintro e w9 ⟨rfl, rfl⟩
    refine ⟨_, rfl, hr4, ?_⟩
    refine twoCV 41 56 42 57 (v := .slice (some ⟨w5.heap.size, 0, none⟩) 0 0) (w' := (w5.alloc (.cells #[] 5))) (by kernel_rfl) rfl rfl (wanted_some (j := 37) (d := 52) (bb := true) rfl rfl rfl (by simp [eval_put_ne, eval_put_eq, size_put, hts]) (by simp [size_put, hts])) (r_call2 Try.func9 (by kernel_rfl) rfl rfl (by simp [eval_put_ne, eval_put_eq, size_put, hts]) (by simp [eval_put_ne, eval_put_eq, size_put, hts])) (join_at w5 (joinN 0 A) (joinN_lt _ _) _ B hB4 (by omega)) ?_ rfl rfl (wanted_some (j := 37) (d := 52) (bb := true) rfl rfl rfl (by simp [eval_put_ne, eval_put_eq, size_put, hts]) (by simp [size_put, hts])) (r_bs22 [] rfl (by decide) rfl) hkU ?_
    · skip
      rintro e w9 ⟨rfl, rfl⟩
      refine ⟨_, rfl, hr4, ?_⟩
      refine oneV 42 57 (v := .slice (some ⟨w5.heap.size, 0, none⟩) 0 0) (w' := (w5.alloc (.cells #[] 5))) (by kernel_rfl) rfl rfl (wanted_some (j := 37) (d := 52) (bb := true) rfl rfl rfl (by simp [eval_put_ne, eval_put_eq, size_put, hts]) (by simp [size_put, hts])) (r_bs22 [] rfl (by decide) rfl) hkU ?_
      obtain ⟨v1, x1, hr1, ho1, hx1⟩ := append_src hoU hAU (by simp; omega) (by simp) 22
      rw [List.nil_append] at ho1
      have hy1 : Kept (fun _ => False) w5 x1 := hkU.trans hx1 (fun i hi h => by omega)
      refine oneV 44 59 (v := v1) (by kernel_rfl) rfl rfl (wanted_some (j := 37) (d := 52) (bb := true) rfl rfl rfl (by simp [eval_put_ne, eval_put_eq, size_put, hts]) (by simp [size_put, hts])) (r_append22 (by simp [eval_put_ne, eval_put_eq, size_put, hts]) (by simp [eval_put_ne, eval_put_eq, size_put, hts]) hr1) hy1 ?_
      obtain ⟨v2, x2, hr2, ho2, hx2⟩ := append_src ho1 (hB4.kept hy1) (by omega) hy1.size 22
      have hy2 : Kept (fun _ => False) w5 x2 := hy1.trans hx2 (fun i hi h => by omega)
      refine oneV 46 61 (v := v2) (by kernel_rfl) rfl rfl (wanted_some (j := 37) (d := 52) (bb := true) rfl rfl rfl (by simp [eval_put_ne, eval_put_eq, size_put, hts]) (by simp [size_put, hts])) (r_append22 (by simp [eval_put_ne, eval_put_eq, size_put, hts]) (by simp [eval_put_ne, eval_put_eq, size_put, hts]) hr2) hy2 ?_
      refine oneC 47 62 (by kernel_rfl) rfl rfl (wanted_some (j := 37) (d := 52) (bb := true) rfl rfl rfl (by simp [eval_put_ne, eval_put_eq, size_put, hts]) (by simp [size_put, hts])) (r_call2 Try.func8 (by kernel_rfl) rfl rfl rfl (by simp [eval_put_ne, eval_put_eq, size_put, hts])) (refJoin_at x2 0 (by decide) _ (A ++ B) ho2.src (by rw [List.length_append]; omega)) ?_
      rintro e w9 ⟨rfl, rfl⟩
      refine ⟨_, rfl, hy2, ?_⟩
      refine tkK 48 63 (v := .bool true) hy2 rfl rfl (by kernel_rfl) (by kernel_rfl) (by kernel_rfl) (wanted_some (j := 37) (d := 52) (bb := true) rfl rfl rfl (by simp [eval_put_ne, eval_put_eq, size_put, hts]) (by simp [size_put, hts])) (fun _ _ _ h => h) (fun U hU => (r_eql23 (p := joinN (joinN 0 A) B) (q := joinN 0 (A ++ B)) (by simp [eval_put_ne, eval_put_eq, size_put, hts]) (by simp [eval_put_ne, eval_put_eq, size_put, hts])).trans (by rw [HJ.out]; simp)) ?_
      refine tkK 49 64 (v := .bool true) hy2 rfl rfl (by kernel_rfl) (by kernel_rfl) (by kernel_rfl) (wanted_none rfl) (fun _ _ _ h => h) (fun U hU => r_pick (by simp [eval_put_ne, eval_put_eq, size_put, hts]) (by simp [eval_put_ne, eval_put_eq, size_put, hts])) ?_
      refine tkK 50 6 (v := .bool true) hy2 rfl rfl (by kernel_rfl) (by kernel_rfl) (by kernel_rfl) (wanted_none rfl) (fun _ _ _ h => h) (fun U hU => r_assign (by simp [eval_put_ne, eval_put_eq, size_put, hts])) ?_
      refine wpAnyH_done (by kernel_rfl) ?_ _
      have hkf := hkAll.trans hy2 (fun _ _ h => h)
      rw [hfr.out]
      clear hfr
      simp only [put_lit, List.set_cons_succ, List.set_cons_zero]
      go_wp2
      go_ret
      exact ⟨rfl, hkf⟩
    · skip
      refine oneC 41 56 (by kernel_rfl) rfl rfl (wanted_some (j := 37) (d := 52) (bb := true) rfl rfl rfl (by simp [eval_put_ne, eval_put_eq, size_put, hts]) (by simp [size_put, hts])) (r_call2 Try.func9 (by kernel_rfl) rfl rfl (by simp [eval_put_ne, eval_put_eq, size_put, hts]) (by simp [eval_put_ne, eval_put_eq, size_put, hts])) (join_at (w5.alloc (.cells #[] 5)) (joinN 0 A) (joinN_lt _ _) _ B hBU (by omega)) ?_
      rintro e w9 ⟨rfl, rfl⟩
      refine ⟨_, rfl, hkU, ?_⟩
      obtain ⟨v1, x1, hr1, ho1, hx1⟩ := append_src hoU hAU (by simp; omega) (by simp) 22
      rw [List.nil_append] at ho1
      have hy1 : Kept (fun _ => False) w5 x1 := hkU.trans hx1 (fun i hi h => by omega)
      refine oneV 44 59 (v := v1) (by kernel_rfl) rfl rfl (wanted_some (j := 37) (d := 52) (bb := true) rfl rfl rfl (by simp [eval_put_ne, eval_put_eq, size_put, hts]) (by simp [size_put, hts])) (r_append22 (by simp [eval_put_ne, eval_put_eq, size_put, hts]) (by simp [eval_put_ne, eval_put_eq, size_put, hts]) hr1) hy1 ?_
      obtain ⟨v2, x2, hr2, ho2, hx2⟩ := append_src ho1 (hB4.kept hy1) (by omega) hy1.size 22
      have hy2 : Kept (fun _ => False) w5 x2 := hy1.trans hx2 (fun i hi h => by omega)
      refine oneV 46 61 (v := v2) (by kernel_rfl) rfl rfl (wanted_some (j := 37) (d := 52) (bb := true) rfl rfl rfl (by simp [eval_put_ne, eval_put_eq, size_put, hts]) (by simp [size_put, hts])) (r_append22 (by simp [eval_put_ne, eval_put_eq, size_put, hts]) (by simp [eval_put_ne, eval_put_eq, size_put, hts]) hr2) hy2 ?_
      refine oneC 47 62 (by kernel_rfl) rfl rfl (wanted_some (j := 37) (d := 52) (bb := true) rfl rfl rfl (by simp [eval_put_ne, eval_put_eq, size_put, hts]) (by simp [size_put, hts])) (r_call2 Try.func8 (by kernel_rfl) rfl rfl rfl (by simp [eval_put_ne, eval_put_eq, size_put, hts])) (refJoin_at x2 0 (by decide) _ (A ++ B) ho2.src (by rw [List.length_append]; omega)) ?_
      rintro e w9 ⟨rfl, rfl⟩
      refine ⟨_, rfl, hy2, ?_⟩
      refine tkK 48 63 (v := .bool true) hy2 rfl rfl (by kernel_rfl) (by kernel_rfl) (by kernel_rfl) (wanted_some (j := 37) (d := 52) (bb := true) rfl rfl rfl (by simp [eval_put_ne, eval_put_eq, size_put, hts]) (by simp [size_put, hts])) (fun _ _ _ h => h) (fun U hU => (r_eql23 (p := joinN (joinN 0 A) B) (q := joinN 0 (A ++ B)) (by simp [eval_put_ne, eval_put_eq, size_put, hts]) (by simp [eval_put_ne, eval_put_eq, size_put, hts])).trans (by rw [HJ.out]; simp)) ?_
      refine tkK 49 64 (v := .bool true) hy2 rfl rfl (by kernel_rfl) (by kernel_rfl) (by kernel_rfl) (wanted_none rfl) (fun _ _ _ h => h) (fun U hU => r_pick (by simp [eval_put_ne, eval_put_eq, size_put, hts]) (by simp [eval_put_ne, eval_put_eq, size_put, hts])) ?_
      refine tkK 50 6 (v := .bool true) hy2 rfl rfl (by kernel_rfl) (by kernel_rfl) (by kernel_rfl) (wanted_none rfl) (fun _ _ _ h => h) (fun U hU => r_assign (by simp [eval_put_ne, eval_put_eq, size_put, hts])) ?_
      refine wpAnyH_done (by kernel_rfl) ?_ _
      have hkf := hkAll.trans hy2 (fun _ _ h => h)
      rw [hfr.out]
      clear hfr
      simp only [put_lit, List.set_cons_succ, List.set_cons_zero]
      go_wp2
      go_ret
      exact ⟨rfl, hkf⟩
  · skip
    refine oneC 39 54 (by kernel_rfl) rfl rfl (wanted_some (j := 37) (d := 52) (bb := true) rfl rfl rfl (by simp [eval_put_ne, eval_put_eq, size_put, hts]) (by simp [size_put, hts])) (r_call1 Try.func7 (by kernel_rfl) rfl rfl (by simp [eval_put_ne, eval_put_eq, size_put, hts])) (sum_at (w5.alloc (.cells #[] 5)) _ A hAU (by omega)) ?_
    rintro e w9 ⟨rfl, rfl⟩
    refine ⟨_, rfl, hkU, ?_⟩
    refine oneC 41 56 (by kernel_rfl) rfl rfl (wanted_some (j := 37) (d := 52) (bb := true) rfl rfl rfl (by simp [eval_put_ne, eval_put_eq, size_put, hts]) (by simp [size_put, hts])) (r_call2 Try.func9 (by kernel_rfl) rfl rfl (by simp [eval_put_ne, eval_put_eq, size_put, hts]) (by simp [eval_put_ne, eval_put_eq, size_put, hts])) (join_at (w5.alloc (.cells #[] 5)) (joinN 0 A) (joinN_lt _ _) _ B hBU (by omega)) ?_
    rintro e w9 ⟨rfl, rfl⟩
    refine ⟨_, rfl, hkU, ?_⟩
    obtain ⟨v1, x1, hr1, ho1, hx1⟩ := append_src hoU hAU (by simp; omega) (by simp) 22
    rw [List.nil_append] at ho1
    have hy1 : Kept (fun _ => False) w5 x1 := hkU.trans hx1 (fun i hi h => by omega)
    refine oneV 44 59 (v := v1) (by kernel_rfl) rfl rfl (wanted_some (j := 37) (d := 52) (bb := true) rfl rfl rfl (by simp [eval_put_ne, eval_put_eq, size_put, hts]) (by simp [size_put, hts])) (r_append22 (by simp [eval_put_ne, eval_put_eq, size_put, hts]) (by simp [eval_put_ne, eval_put_eq, size_put, hts]) hr1) hy1 ?_
    obtain ⟨v2, x2, hr2, ho2, hx2⟩ := append_src ho1 (hB4.kept hy1) (by omega) hy1.size 22
    have hy2 : Kept (fun _ => False) w5 x2 := hy1.trans hx2 (fun i hi h => by omega)
    refine oneV 46 61 (v := v2) (by kernel_rfl) rfl rfl (wanted_some (j := 37) (d := 52) (bb := true) rfl rfl rfl (by simp [eval_put_ne, eval_put_eq, size_put, hts]) (by simp [size_put, hts])) (r_append22 (by simp [eval_put_ne, eval_put_eq, size_put, hts]) (by simp [eval_put_ne, eval_put_eq, size_put, hts]) hr2) hy2 ?_
    refine oneC 47 62 (by kernel_rfl) rfl rfl (wanted_some (j := 37) (d := 52) (bb := true) rfl rfl rfl (by simp [eval_put_ne, eval_put_eq, size_put, hts]) (by simp [size_put, hts])) (r_call2 Try.func8 (by kernel_rfl) rfl rfl rfl (by simp [eval_put_ne, eval_put_eq, size_put, hts])) (refJoin_at x2 0 (by decide) _ (A ++ B) ho2.src (by rw [List.length_append]; omega)) ?_
    rintro e w9 ⟨rfl, rfl⟩
    refine ⟨_, rfl, hy2, ?_⟩
    refine tkK 48 63 (v := .bool true) hy2 rfl rfl (by kernel_rfl) (by kernel_rfl) (by kernel_rfl) (wanted_some (j := 37) (d := 52) (bb := true) rfl rfl rfl (by simp [eval_put_ne, eval_put_eq, size_put, hts]) (by simp [size_put, hts])) (fun _ _ _ h => h) (fun U hU => (r_eql23 (p := joinN (joinN 0 A) B) (q := joinN 0 (A ++ B)) (by simp [eval_put_ne, eval_put_eq, size_put, hts]) (by simp [eval_put_ne, eval_put_eq, size_put, hts])).trans (by rw [HJ.out]; simp)) ?_
    refine tkK 49 64 (v := .bool true) hy2 rfl rfl (by kernel_rfl) (by kernel_rfl) (by kernel_rfl) (wanted_none rfl) (fun _ _ _ h => h) (fun U hU => r_pick (by simp [eval_put_ne, eval_put_eq, size_put, hts]) (by simp [eval_put_ne, eval_put_eq, size_put, hts])) ?_
    refine tkK 50 6 (v := .bool true) hy2 rfl rfl (by kernel_rfl) (by kernel_rfl) (by kernel_rfl) (wanted_none rfl) (fun _ _ _ h => h) (fun U hU => r_assign (by simp [eval_put_ne, eval_put_eq, size_put, hts])) ?_
    refine wpAnyH_done (by kernel_rfl) ?_ _
    have hkf := hkAll.trans hy2 (fun _ _ h => h)
    rw [hfr.out]
    clear hfr
    simp only [put_lit, List.set_cons_succ, List.set_cons_zero]
    go_wp2
    go_ret
    exact ⟨rfl, hkf⟩

end Go.Proofs.Yteacfkbchgjcbaa
