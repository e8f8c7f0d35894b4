/-
  FrameUnlike, walked.
-/
import Derived.Test.YtjkggmjcaedggaaFrFirst
namespace Go.Proofs.Ytjkggmjcaedggaa
open Go.RowKit Go.Shelf
set_option linter.unusedSimpArgs false
set_option linter.unusedVariables false

section
variable {ρ : Operand → Value} {w : World} {dst : Option Tmp} {ty : TypeId} {pos : String} {aft : Array Edge} {gd : Option (Nat × Bool)} {x y : Operand}
theorem r_eql28 {p q : Int} (hx : ρ x = .int .i64 p) (hy : ρ y = .int .i64 q) : (execOp ρ ⟨dst, .binOp .eql 28 x y 28, ty, pos, aft, gd⟩).run Try.prog w = .ok (.value (.bool (decide (p = q)))) w := by
  go_simp
  rw [Bool.eq_iff_iff]; simp
end
theorem putN_inj {f g : Fr} (hf : rightN f = true) (hg : rightN g = true) (hF : ∀ x ∈ f.B, x < 256) (hG : ∀ x ∈ g.B, x < 256) : decide (strN (putN f) = strN (putN g)) = sameN f g := by
  have h5 := ((rightN_iff f).1 hf).2.2.2.2.1
  have h6 := ((rightN_iff g).1 hg).2.2.2.2.1
  rw [Bool.eq_iff_iff, decide_eq_true_eq, strN_iff (putN_lt _ h5 hF) (putN_lt _ h6 hG)]
  constructor
  · intro h
    have h1 := getN_put f hf hF
    rw [h, getN_put g hg hG] at h1
    simp at h1
    rw [h1]
    exact sameN_self f
  · intro h
    rw [sameN_eq h]
theorem put_src (w : World) (f : Fr) (vb : Value) (hs : Src w vb f.B) (hr : rightN f = true) :
    Calls Try.prog 12 #[frAgg f vb] w fun e w' => ∃ g, e = .returned (.slice (some ⟨g, 0, none⟩) 64 64) ∧ Src w' (.slice (some ⟨g, 0, none⟩) 64 64) (putN f) ∧ Kept (fun _ => False) w w' := by
  have h5 := ((rightN_iff f).1 hr).2.2.2.2.1
  refine (put_at w f vb hs hr).mono ?_
  rintro e w1 ⟨g, rfl, hb, hg, hk⟩
  refine ⟨g, rfl, ?_, hk⟩
  have hpl := putN_length f h5
  have := hb.src (B := putN f) (cap := 64) (by rw [hpl, List.take_of_length_le (by rw [BV_length, hpl]; exact Nat.le_refl _)]) (putN_lt _ h5 hs.lt) (by rw [hpl]; exact Nat.le_refl _)
  rw [hpl] at this
  exact this

set_option maxRecDepth 100000 in
set_option maxHeartbeats 8000000 in
theorem unlike_at (w : World) (f g : Fr) (vf vg : Value) (hf : Src w vf f.B) (hg : Src w vg g.B) (hlf : f.B.length ≤ 9223372036854775807) (hlg : g.B.length ≤ 9223372036854775807) :
    Calls Try.prog 5 #[frAgg f vf, frAgg g vg] w fun e w' => e = .returned (.bool true) ∧ Kept (fun _ => False) w w' := by
  obtain ⟨i24, hi24, hz24, hs24, hb24⟩ := info_parts Try.info24
  have Hi24 := hide hi24
  have Hz24 := hide hz24
  have HF := hide hf
  have HG := hide hg
  obtain ⟨fo, fc, rfl⟩ := hf.slice
  obtain ⟨go, gc, rfl⟩ := hg.slice
  obtain ⟨fl, hfl⟩ : ∃ n, n = f.B.length := ⟨_, rfl⟩
  obtain ⟨gl, hgl⟩ : ∃ n, n = g.B.length := ⟨_, rfl⟩
  rw [← hfl] at HF hlf ⊢
  rw [← hgl] at HG hlg ⊢
  have Hfl := hide hfl
  have Hgl := hide hgl
  have HRf : Hid (∀ w, Calls Try.prog 11 #[frAgg f (.slice fo fl fc)] w fun e w' => e = .returned (.bool (rightN f)) ∧ Kept (fun _ => False) w w') := hide (fun w => right_at w f _ ⟨fo, fc, by rw [Hfl.out]⟩)
  have HRg : Hid (∀ w, Calls Try.prog 11 #[frAgg g (.slice go gl gc)] w fun e w' => e = .returned (.bool (rightN g)) ∧ Kept (fun _ => False) w w') := hide (fun w => right_at w g _ ⟨go, gc, by rw [Hgl.out]⟩)
  clear hi24 hz24 hs24 hb24 hf hg hfl hgl
  unfold frAgg
  go_enter Try.func5, Try.ntmps5
  go_wp2_with (first
    | ((with_reducible refine aw_box (dst := some 2) (t := 24) (v := .agg #[.int .i64 f.lsn, .int .i64 f.ep, .int .i64 f.ix, .int .i64 f.ct, .slice fo fl fc]) rfl ?_); intro w1 hb1 hk1 hz1)
    | ((with_reducible refine aw_box (dst := some 3) (t := 24) (v := .agg #[.int .i64 g.lsn, .int .i64 g.ep, .int .i64 g.ix, .int .i64 g.ct, .slice go gl gc]) rfl ?_); intro w2 hb2 hk2 hz2; have Yz2 := hide hz2; clear hz2 hz1)
    | fail)
  refine (first_law w2).mono ?_
  rintro e w3 ⟨rfl, hk3⟩
  have HB2 : Hid (Blk w3 w.heap.size (frV f (.slice fo fl fc)) 24) := hide (hk3.blk (hk2.blk hb1 (fun h => h)) (fun h => h))
  have HB3 : Hid (Blk w3 w1.heap.size (frV g (.slice go gl gc)) 24) := hide (hk3.blk hb2 (fun h => h))
  obtain ⟨b2, hb2e⟩ : ∃ b, b = w.heap.size := ⟨_, rfl⟩
  obtain ⟨b3, hb3e⟩ : ∃ b, b = w1.heap.size := ⟨_, rfl⟩
  rw [← hb2e] at HB2 ⊢
  rw [← hb3e] at HB3 ⊢
  have HK3 := hide ((hk1.trans hk2 (fun _ _ h => h)).trans hk3 (fun _ _ h => h))
  have HF3 := hide (((HF.out.kept hk1).kept hk2).kept hk3)
  have HG3 := hide (((HG.out.kept hk1).kept hk2).kept hk3)
  clear hb1 hb2 hk1 hk2 hk3 hb2e hb3e Yz2
  go_wp2_with (first
    | (with_reducible refine aw_load (x := .tmp 2) (M := frV f (.slice fo fl fc)) Try.agg24 rfl HB2.out (by simp [frV]) rfl ?_)
    | fail)
  refine (HRf.out w3).mono ?_
  rintro e w4 ⟨rfl, hk4⟩
  have HB24 := hide (hk4.blk HB2.out (fun h => h))
  have HB34 := hide (hk4.blk HB3.out (fun h => h))
  have HK4 := hide (HK3.out.trans hk4 (fun _ _ h => h))
  have HF4 := hide (HF3.out.kept hk4)
  have HG4 := hide (HG3.out.kept hk4)
  clear hk4 HB2 HB3 HK3 HF3 HG3
  cases hrf : rightN f with
  | false =>
    have Hr := hide hrf
    clear hrf
    have c0 : w4.cell? ⟨b2, 0, none⟩ = some (.int .i64 f.lsn) := HB24.out.cell 0
    have c1 : w4.cell? ⟨b2, 1, none⟩ = some (.int .i64 f.ep) := HB24.out.cell 1
    have c2 : w4.cell? ⟨b2, 2, none⟩ = some (.int .i64 f.ix) := HB24.out.cell 2
    have c3 : w4.cell? ⟨b2, 3, none⟩ = some (.int .i64 f.ct) := HB24.out.cell 3
    have c4 : w4.cell? ⟨b2, 4, none⟩ = some (.slice fo fl fc) := HB24.out.cell 4
    have d0 : w4.cell? ⟨b3, 0, none⟩ = some (.int .i64 g.lsn) := HB34.out.cell 0
    have d1 : w4.cell? ⟨b3, 1, none⟩ = some (.int .i64 g.ep) := HB34.out.cell 1
    have d2 : w4.cell? ⟨b3, 2, none⟩ = some (.int .i64 g.ix) := HB34.out.cell 2
    have d3 : w4.cell? ⟨b3, 3, none⟩ = some (.int .i64 g.ct) := HB34.out.cell 3
    have d4 : w4.cell? ⟨b3, 4, none⟩ = some (.slice go gl gc) := HB34.out.cell 4
    by_cases h1 : 40 < fl
    · go_wp2
      go_ret
      exact ⟨rfl, HK4.out⟩
    · by_cases h2 : 40 < gl
      · go_wp2
        go_ret
        exact ⟨rfl, HK4.out⟩
      · go_wp2_with fail
        refine (put_no w4 f (.slice fo fl fc) ⟨fo, fc, by rw [Hfl.out]⟩ Hr.out).mono ?_
        rintro e w8 ⟨rfl, hk8⟩
        clear c0 c1 c2 c3 c4 d0 d1 d2 d3 d4
        go_wp2
        go_ret
        exact ⟨rfl, HK4.out.trans hk8 (fun _ _ h => h)⟩
  | true =>
  have HrF := hide hrf
  clear hrf
  have c0 : w4.cell? ⟨b2, 0, none⟩ = some (.int .i64 f.lsn) := HB24.out.cell 0
  have c1 : w4.cell? ⟨b2, 1, none⟩ = some (.int .i64 f.ep) := HB24.out.cell 1
  have c2 : w4.cell? ⟨b2, 2, none⟩ = some (.int .i64 f.ix) := HB24.out.cell 2
  have c3 : w4.cell? ⟨b2, 3, none⟩ = some (.int .i64 f.ct) := HB24.out.cell 3
  have c4 : w4.cell? ⟨b2, 4, none⟩ = some (.slice fo fl fc) := HB24.out.cell 4
  have d0 : w4.cell? ⟨b3, 0, none⟩ = some (.int .i64 g.lsn) := HB34.out.cell 0
  have d1 : w4.cell? ⟨b3, 1, none⟩ = some (.int .i64 g.ep) := HB34.out.cell 1
  have d2 : w4.cell? ⟨b3, 2, none⟩ = some (.int .i64 g.ix) := HB34.out.cell 2
  have d3 : w4.cell? ⟨b3, 3, none⟩ = some (.int .i64 g.ct) := HB34.out.cell 3
  have d4 : w4.cell? ⟨b3, 4, none⟩ = some (.slice go gl gc) := HB34.out.cell 4
  go_wp2_with fail
  refine (HRg.out w4).mono ?_
  rintro e w5 ⟨rfl, hk5⟩
  clear c0 c1 c2 c3 c4 d0 d1 d2 d3 d4
  have HB25 := hide (hk5.blk HB24.out (fun h => h))
  have HB35 := hide (hk5.blk HB34.out (fun h => h))
  have HK5 := hide (HK4.out.trans hk5 (fun _ _ h => h))
  have HF5 := hide (HF4.out.kept hk5)
  have HG5 := hide (HG4.out.kept hk5)
  clear hk5 HB24 HB34 HK4 HF4 HG4
  cases hrg : rightN g with
  | false =>
    have Hr := hide hrg
    clear hrg
    have c0 : w5.cell? ⟨b2, 0, none⟩ = some (.int .i64 f.lsn) := HB25.out.cell 0
    have c1 : w5.cell? ⟨b2, 1, none⟩ = some (.int .i64 f.ep) := HB25.out.cell 1
    have c2 : w5.cell? ⟨b2, 2, none⟩ = some (.int .i64 f.ix) := HB25.out.cell 2
    have c3 : w5.cell? ⟨b2, 3, none⟩ = some (.int .i64 f.ct) := HB25.out.cell 3
    have c4 : w5.cell? ⟨b2, 4, none⟩ = some (.slice fo fl fc) := HB25.out.cell 4
    have d0 : w5.cell? ⟨b3, 0, none⟩ = some (.int .i64 g.lsn) := HB35.out.cell 0
    have d1 : w5.cell? ⟨b3, 1, none⟩ = some (.int .i64 g.ep) := HB35.out.cell 1
    have d2 : w5.cell? ⟨b3, 2, none⟩ = some (.int .i64 g.ix) := HB35.out.cell 2
    have d3 : w5.cell? ⟨b3, 3, none⟩ = some (.int .i64 g.ct) := HB35.out.cell 3
    have d4 : w5.cell? ⟨b3, 4, none⟩ = some (.slice go gl gc) := HB35.out.cell 4
    by_cases h1 : 40 < fl
    · go_wp2
      go_ret
      exact ⟨rfl, HK5.out⟩
    · by_cases h2 : 40 < gl
      · go_wp2
        go_ret
        exact ⟨rfl, HK5.out⟩
      · go_wp2_with fail
        refine (put_src w5 f (.slice fo fl fc) HF5.out HrF.out).mono ?_
        rintro e w8 ⟨gx, rfl, hsx, hk8⟩
        have HB28 := hide (hk8.blk HB25.out (fun h => h))
        have HB38 := hide (hk8.blk HB35.out (fun h => h))
        clear c0 c1 c2 c3 c4 d0 d1 d2 d3 d4 hsx
        have c0 : w8.cell? ⟨b2, 0, none⟩ = some (.int .i64 f.lsn) := HB28.out.cell 0
        have c1 : w8.cell? ⟨b2, 1, none⟩ = some (.int .i64 f.ep) := HB28.out.cell 1
        have c2 : w8.cell? ⟨b2, 2, none⟩ = some (.int .i64 f.ix) := HB28.out.cell 2
        have c3 : w8.cell? ⟨b2, 3, none⟩ = some (.int .i64 f.ct) := HB28.out.cell 3
        have c4 : w8.cell? ⟨b2, 4, none⟩ = some (.slice fo fl fc) := HB28.out.cell 4
        have d0 : w8.cell? ⟨b3, 0, none⟩ = some (.int .i64 g.lsn) := HB38.out.cell 0
        have d1 : w8.cell? ⟨b3, 1, none⟩ = some (.int .i64 g.ep) := HB38.out.cell 1
        have d2 : w8.cell? ⟨b3, 2, none⟩ = some (.int .i64 g.ix) := HB38.out.cell 2
        have d3 : w8.cell? ⟨b3, 3, none⟩ = some (.int .i64 g.ct) := HB38.out.cell 3
        have d4 : w8.cell? ⟨b3, 4, none⟩ = some (.slice go gl gc) := HB38.out.cell 4
        go_wp2_with fail
        refine (put_no w8 g (.slice go gl gc) ⟨go, gc, by rw [Hgl.out]⟩ Hr.out).mono ?_
        rintro e w9 ⟨rfl, hk9⟩
        clear c0 c1 c2 c3 c4 d0 d1 d2 d3 d4
        go_wp2
        go_ret
        exact ⟨rfl, (HK5.out.trans hk8 (fun _ _ h => h)).trans hk9 (fun _ _ h => h)⟩
  | true =>
  have HrG := hide hrg
  clear hrg
  have hput := put_src w5 f (.slice fo fl fc) HF5.out HrF.out
  have Hput := hide hput
  clear hput
  have Heq := hide (putN_inj HrF.out HrG.out HF5.out.lt HG5.out.lt)
  have HFl := hide HF5.out.lt
  go_wp2_with (first
    | (with_reducible refine aw_load (x := .tmp 2) (M := frV f (.slice fo fl fc)) Try.agg24 rfl HB25.out (by simp [frV]) rfl ?_)
    | fail)
  refine Hput.out.mono ?_
  rintro e w6 ⟨gp, rfl, hs6, hk6⟩
  have HB26 := hide (hk6.blk HB25.out (fun h => h))
  have HB36 := hide (hk6.blk HB35.out (fun h => h))
  have HK6 := hide (HK5.out.trans hk6 (fun _ _ h => h))
  have HF6 := hide (HF5.out.kept hk6)
  have HG6 := hide (HG5.out.kept hk6)
  have hpl : (putN f).length ≤ 90000000 := by rw [putN_length f ((rightN_iff f).1 HrF.out).2.2.2.2.1]; decide
  have HGe := hide (get_at w6 _ (putN f) hs6 hpl)
  rw [getN_put f HrF.out HFl.out] at HGe
  clear hk6 hs6 hpl Hput HB25 HB35 HK5 HF5 HG5
  go_wp2_with fail
  refine HGe.out.mono ?_
  rintro e w7 ⟨vx, rfl, hsx, hk7⟩
  have hsx' : Src w7 vx f.B := hsx
  obtain ⟨xo, xc, hvx⟩ := hsx'.slice
  rw [← Hfl.out] at hvx
  subst hvx
  have HB27 := hide (hk7.blk HB26.out (fun h => h))
  have HB37 := hide (hk7.blk HB36.out (fun h => h))
  have HK7 := hide (HK6.out.trans hk7 (fun _ _ h => h))
  have HF7 := hide (HF6.out.kept hk7)
  have HG7 := hide (HG6.out.kept hk7)
  have HX7 := hide hsx'
  have HOf := hide (frV_one f xo fl xc)
  clear hk7 hsx hsx' HGe HB26 HB36 HK6 HF6 HG6
  simp only []
  go_wp2_with (first
    | ((with_reducible refine aw_alloc (dst := some 5) Hi24.out Hz24.out ?_); intro w8 hb8 hk8 hz8)
    | ((with_reducible refine aw_store (x := .tmp 5) (M := frV f (.slice xo fl xc)) Try.agg24 rfl rfl rfl HOf.out hb8 (by simp [Value.cells]) ?_); intro w9 hw9 hk9 hz9; rw [put_whole _ _ (by simp [Value.cells, frV])] at hw9)
    | fail)
  have hk79 : Kept (fun _ => False) w7 w9 := hk8.trans hk9 (fun i hi h => by omega)
  obtain ⟨b5, hb5⟩ : ∃ b, b = w7.heap.size := ⟨_, rfl⟩
  rw [← hb5] at hw9 ⊢
  have HB59 := hide hw9
  have HB29 := hide (hk79.blk HB27.out (fun h => h))
  have HB39 := hide (hk79.blk HB37.out (fun h => h))
  have HK9 := hide (HK7.out.trans hk79 (fun _ _ h => h))
  have HF9 := hide (HF7.out.kept hk79)
  have HG9 := hide (HG7.out.kept hk79)
  have HX9 := hide (HX7.out.kept hk79)
  clear hb5 hw9 hk8 hk9 hz8 hz9 hb8 hk79 HB27 HB37 HK7 HF7 HG7 HX7 HOf
  refine hold_frame (p := fun fr => Code.wp Try.prog _ _ fr _) ?_
  intro fr hfr
  have e2 : fr.eval (.tmp 2) = .pointer (some ⟨b2, 0, none⟩) := by rw [hfr.out]; rfl
  have e3 : fr.eval (.tmp 3) = .pointer (some ⟨b3, 0, none⟩) := by rw [hfr.out]; rfl
  have e5 : fr.eval (.tmp 5) = .pointer (some ⟨b5, 0, none⟩) := by rw [hfr.out]; rfl
  have e6 : fr.eval (.tmp 6) = .int .i64 0 := by rw [hfr.out]; rfl
  have hts : fr.tmps.size = 65 := by rw [hfr.out]; rfl
  refine region_S0 99 Try.mixed ?_
  intro w0 hkw hheap
  have HB2 := hide (hkw.blk HB29.out (fun h => h))
  have HB3 := hide (hkw.blk HB39.out (fun h => h))
  have HB5 := hide (hkw.blk HB59.out (fun h => h))
  have HF0 := hide (HF9.out.kept hkw)
  have HG0 := hide (HG9.out.kept hkw)
  have HX0 := hide (HX9.out.kept hkw)
  have HK0 := hide (HK9.out.trans hkw (fun _ _ h => h))
  clear HB29 HB39 HB59 HF9 HG9 HX9 HK9
  have hS0 : Kept (fun _ => False) w0 w0 := Kept.refl (fun _ => False) w0
  refine ⟨Kept (fun _ => False) w0, ?_⟩
  refine tkS 0 45 (v := .int .i64 0) hS0 rfl rfl (by kernel_rfl) (by kernel_rfl) (by kernel_rfl) (by kernel_rfl) (wanted_none rfl) (fun _ _ _ h => h) (fun U hU => r_move (by simp [eval_put_ne, eval_put_eq, size_put, hts, e6])) ?_
  refine tkS 1 46 (v := .bool true) hS0 rfl rfl (by kernel_rfl) (by kernel_rfl) (by kernel_rfl) (by kernel_rfl) (wanted_none rfl) (fun _ _ _ h => h) (fun U hU => (r_eql28 (p := 0) (q := 0) (by simp [eval_put_ne, eval_put_eq, size_put, hts]) rfl).trans (by simp)) ?_
  refine tkS 2 47 (v := .bool true) hS0 rfl rfl (by kernel_rfl) (by kernel_rfl) (by kernel_rfl) (by kernel_rfl) (wanted_none rfl) (fun _ _ _ h => h) (fun U hU => r_move (by simp [eval_put_ne, eval_put_eq, size_put, hts])) ?_
  refine tkS 3 48 (v := frAgg f (.slice xo fl xc)) hS0 rfl rfl (by kernel_rfl) (by kernel_rfl) (by kernel_rfl) (by kernel_rfl) (wanted_some (j := 2) (d := 47) (bb := true) rfl rfl rfl (by simp [eval_put_ne, eval_put_eq, size_put, hts]) (by simp [size_put, hts])) (fun _ _ _ h => h) (fun U hU => run_load24 (by simp [eval_put_ne, eval_put_eq, size_put, hts, e5]) ((hS0.trans hU (fun _ _ h => h)).blk HB5.out (fun h => h))) ?_
  refine tkS 4 49 (v := frAgg f (.slice fo fl fc)) hS0 rfl rfl (by kernel_rfl) (by kernel_rfl) (by kernel_rfl) (by kernel_rfl) (wanted_some (j := 2) (d := 47) (bb := true) rfl rfl rfl (by simp [eval_put_ne, eval_put_eq, size_put, hts]) (by simp [size_put, hts])) (fun _ _ _ h => h) (fun U hU => run_load24 (by simp [eval_put_ne, eval_put_eq, size_put, hts, e2]) ((hS0.trans hU (fun _ _ h => h)).blk HB2.out (fun h => h))) ?_
  refine oneCS 5 50 (by kernel_rfl) rfl rfl (wanted_some (j := 2) (d := 47) (bb := true) rfl rfl rfl (by simp [eval_put_ne, eval_put_eq, size_put, hts]) (by simp [size_put, hts])) (r_call2 Try.func13 (by kernel_rfl) rfl rfl (by simp [eval_put_ne, eval_put_eq, size_put, hts]) (by simp [eval_put_ne, eval_put_eq, size_put, hts])) ((same_at w0 f f _ _ HX0.out HF0.out)) ?_
  rintro e w1 ⟨rfl, hk1⟩
  rw [sameN_self]
  refine ⟨_, rfl, hk1, ?_⟩
  refine raiseM (S' := Kept (fun _ => False) w1) (fun U hU => hk1.trans hU (fun _ _ h => h)) ?_
  have hS1 : (Kept (fun _ => False) w1) _ := Kept.refl _ _
  refine tkS 6 51 (v := .bool true) hS1 rfl rfl (by kernel_rfl) (by kernel_rfl) (by kernel_rfl) (by kernel_rfl) (wanted_none rfl) (fun _ _ _ h => h) (fun U hU => r_pick (by simp [eval_put_ne, eval_put_eq, size_put, hts]) (by simp [eval_put_ne, eval_put_eq, size_put, hts])) ?_
  refine tkS 7 52 (v := .bool true) hS1 rfl rfl (by kernel_rfl) (by kernel_rfl) (by kernel_rfl) (by kernel_rfl) (wanted_none rfl) (fun _ _ _ h => h) (fun U hU => r_move (by simp [eval_put_ne, eval_put_eq, size_put, hts])) ?_
  refine tkS 8 53 (v := frAgg f (.slice fo fl fc)) hS1 rfl rfl (by kernel_rfl) (by kernel_rfl) (by kernel_rfl) (by kernel_rfl) (wanted_some (j := 7) (d := 52) (bb := true) rfl rfl rfl (by simp [eval_put_ne, eval_put_eq, size_put, hts]) (by simp [size_put, hts])) (fun _ _ _ h => h) (fun U hU => run_load24 (by simp [eval_put_ne, eval_put_eq, size_put, hts, e2]) ((hk1.trans hU (fun _ _ h => h)).blk HB2.out (fun h => h))) ?_
  refine tkS 11 56 (v := frAgg g (.slice go gl gc)) hS1 rfl rfl (by kernel_rfl) (by kernel_rfl) (by kernel_rfl) (by kernel_rfl) (wanted_some (j := 7) (d := 52) (bb := true) rfl rfl rfl (by simp [eval_put_ne, eval_put_eq, size_put, hts]) (by simp [size_put, hts])) (fun _ _ _ h => h) (fun U hU => run_load24 (by simp [eval_put_ne, eval_put_eq, size_put, hts, e3]) ((hk1.trans hU (fun _ _ h => h)).blk HB3.out (fun h => h))) ?_
  refine tkS 15 60 (v := frAgg f (.slice fo fl fc)) hS1 rfl rfl (by kernel_rfl) (by kernel_rfl) (by kernel_rfl) (by kernel_rfl) (wanted_some (j := 7) (d := 52) (bb := true) rfl rfl rfl (by simp [eval_put_ne, eval_put_eq, size_put, hts]) (by simp [size_put, hts])) (fun _ _ _ h => h) (fun U hU => run_load24 (by simp [eval_put_ne, eval_put_eq, size_put, hts, e2]) ((hk1.trans hU (fun _ _ h => h)).blk HB2.out (fun h => h))) ?_
  refine tkS 16 61 (v := frAgg g (.slice go gl gc)) hS1 rfl rfl (by kernel_rfl) (by kernel_rfl) (by kernel_rfl) (by kernel_rfl) (wanted_some (j := 7) (d := 52) (bb := true) rfl rfl rfl (by simp [eval_put_ne, eval_put_eq, size_put, hts]) (by simp [size_put, hts])) (fun _ _ _ h => h) (fun U hU => run_load24 (by simp [eval_put_ne, eval_put_eq, size_put, hts, e3]) ((hk1.trans hU (fun _ _ h => h)).blk HB3.out (fun h => h))) ?_
  refine oneCS 9 54 (by kernel_rfl) rfl rfl (wanted_some (j := 7) (d := 52) (bb := true) rfl rfl rfl (by simp [eval_put_ne, eval_put_eq, size_put, hts]) (by simp [size_put, hts])) (r_call1 Try.func12 (by kernel_rfl) rfl rfl (by simp [eval_put_ne, eval_put_eq, size_put, hts])) (put_src w1 f _ (HF0.out.kept hk1) HrF.out) ?_
  rintro e w2 ⟨g1, rfl, hs2, hk2⟩
  refine ⟨_, rfl, hk2, ?_⟩
  have hk02 := hk1.trans hk2 (fun _ _ h => h)
  refine raiseM (S' := Kept (fun _ => False) w2) (fun U hU => hk2.trans hU (fun _ _ h => h)) ?_
  have hS2 : (Kept (fun _ => False) w2) _ := Kept.refl _ _
  refine tkS 10 55 (v := .string (strN (putN f))) hS2 rfl rfl (by kernel_rfl) (by kernel_rfl) (by kernel_rfl) (by kernel_rfl) (wanted_some (j := 7) (d := 52) (bb := true) rfl rfl rfl (by simp [eval_put_ne, eval_put_eq, size_put, hts]) (by simp [size_put, hts])) (fun _ _ _ h => h) (fun U hU => r_strS (v := .slice (some ⟨g1, 0, none⟩) 64 64) (by simp [eval_put_ne, eval_put_eq, size_put, hts]) (hs2.kept hU)) ?_
  refine oneCS 12 57 (by kernel_rfl) rfl rfl (wanted_some (j := 7) (d := 52) (bb := true) rfl rfl rfl (by simp [eval_put_ne, eval_put_eq, size_put, hts]) (by simp [size_put, hts])) (r_call1 Try.func12 (by kernel_rfl) rfl rfl (by simp [eval_put_ne, eval_put_eq, size_put, hts])) (put_src w2 g _ (HG0.out.kept hk02) HrG.out) ?_
  rintro e w3 ⟨g2, rfl, hs3, hk3⟩
  refine ⟨_, rfl, hk3, ?_⟩
  have hk03 := hk02.trans hk3 (fun _ _ h => h)
  refine raiseM (S' := Kept (fun _ => False) w3) (fun U hU => hk3.trans hU (fun _ _ h => h)) ?_
  have hS3 : (Kept (fun _ => False) w3) _ := Kept.refl _ _
  refine tkS 13 58 (v := .string (strN (putN g))) hS3 rfl rfl (by kernel_rfl) (by kernel_rfl) (by kernel_rfl) (by kernel_rfl) (wanted_some (j := 7) (d := 52) (bb := true) rfl rfl rfl (by simp [eval_put_ne, eval_put_eq, size_put, hts]) (by simp [size_put, hts])) (fun _ _ _ h => h) (fun U hU => r_strS (v := .slice (some ⟨g2, 0, none⟩) 64 64) (by simp [eval_put_ne, eval_put_eq, size_put, hts]) (hs3.kept hU)) ?_
  refine tkS 14 59 (v := .bool (sameN f g)) hS3 rfl rfl (by kernel_rfl) (by kernel_rfl) (by kernel_rfl) (by kernel_rfl) (wanted_some (j := 7) (d := 52) (bb := true) rfl rfl rfl (by simp [eval_put_ne, eval_put_eq, size_put, hts]) (by simp [size_put, hts])) (fun _ _ _ h => h) (fun U hU => (r_eql9 (p := strN (putN f)) (q := strN (putN g)) (by simp [eval_put_ne, eval_put_eq, size_put, hts]) (by simp [eval_put_ne, eval_put_eq, size_put, hts])).trans (by rw [Heq.out])) ?_
  refine oneCS 17 62 (by kernel_rfl) rfl rfl (wanted_some (j := 7) (d := 52) (bb := true) rfl rfl rfl (by simp [eval_put_ne, eval_put_eq, size_put, hts]) (by simp [size_put, hts])) (r_call2 Try.func13 (by kernel_rfl) rfl rfl (by simp [eval_put_ne, eval_put_eq, size_put, hts]) (by simp [eval_put_ne, eval_put_eq, size_put, hts])) ((same_at w3 f g _ _ (HF0.out.kept hk03) (HG0.out.kept hk03))) ?_
  rintro e w4 ⟨rfl, hk4⟩
  refine ⟨_, rfl, hk4, ?_⟩
  have hk04 := hk03.trans hk4 (fun _ _ h => h)
  refine raiseM (S' := Kept (fun _ => False) w4) (fun U hU => hk4.trans hU (fun _ _ h => h)) ?_
  have hS4 : (Kept (fun _ => False) w4) _ := Kept.refl _ _
  refine tkS 18 63 (v := .bool true) hS4 rfl rfl (by kernel_rfl) (by kernel_rfl) (by kernel_rfl) (by kernel_rfl) (wanted_some (j := 7) (d := 52) (bb := true) rfl rfl rfl (by simp [eval_put_ne, eval_put_eq, size_put, hts]) (by simp [size_put, hts])) (fun _ _ _ h => h) (fun U hU => (r_eql4 (p := sameN f g) (q := sameN f g) (by simp [eval_put_ne, eval_put_eq, size_put, hts]) (by simp [eval_put_ne, eval_put_eq, size_put, hts])).trans (by simp)) ?_
  refine tkS 19 64 (v := .bool true) hS4 rfl rfl (by kernel_rfl) (by kernel_rfl) (by kernel_rfl) (by kernel_rfl) (wanted_none rfl) (fun _ _ _ h => h) (fun U hU => r_pick (by simp [eval_put_ne, eval_put_eq, size_put, hts]) (by simp [eval_put_ne, eval_put_eq, size_put, hts])) ?_
  refine tkS 20 4 (v := .bool true) hS4 rfl rfl (by kernel_rfl) (by kernel_rfl) (by kernel_rfl) (by kernel_rfl) (wanted_none rfl) (fun _ _ _ h => h) (fun U hU => r_assign (by simp [eval_put_ne, eval_put_eq, size_put, hts])) ?_
  refine doneS (by kernel_rfl) ?_
  rw [hfr.out]
  clear hfr e2 e3 e5 e6 hts
  simp only [put_lit, put_none, List.set_cons_succ, List.set_cons_zero]
  have HKF := hide (HK0.out.trans hk04 (fun _ _ h => h))
  clear hS0 hS1 hS2 hS3 hS4 hs2 hs3 hk1 hk2 hk3 hk4 hk02 hk03 hk04 hkw hheap
  go_wp2
  go_ret
  exact ⟨rfl, HKF.out⟩
end Go.Proofs.Ytjkggmjcaedggaa
