/-
  FrameTells, walked.
-/
import Derived.Test.YtjkggmjcaedggaaFrRefG
namespace Go.Proofs.Ytjkggmjcaedggaa
open Go.RowKit Go.Shelf
set_option linter.unusedSimpArgs false
set_option linter.unusedVariables false

set_option maxRecDepth 100000 in
set_option maxHeartbeats 8000000 in
theorem tells_at (w : World) (f : Fr) (vf : Value) (v : Value) (b : List Nat) (hf : Src w vf f.B) (hb : Src w v b) (hlf : f.B.length ≤ 9223372036854775807) (hlb : b.length ≤ 9223372036854775807) :
    Calls Try.prog 3 #[frAgg f vf, v] w fun e w' => e = .returned (.bool true) ∧ Kept (fun _ => False) w w' := by
  obtain ⟨i24, hi24, hz24, hs24, hb24⟩ := info_parts Try.info24
  have Hi24 := hide hi24
  have Hz24 := hide hz24
  have HF := hide hf
  have HB := hide hb
  obtain ⟨fo, fc, rfl⟩ := hf.slice
  obtain ⟨bo, bc, rfl⟩ := hb.slice
  obtain ⟨fl, hfl⟩ : ∃ n, n = f.B.length := ⟨_, rfl⟩
  obtain ⟨bl, hbl⟩ : ∃ n, n = b.length := ⟨_, rfl⟩
  rw [← hfl] at HF hlf ⊢
  rw [← hbl] at HB hlb ⊢
  have Hfl := hide hfl
  have Hbl := hide hbl
  have Hgr := hide (get_eq_ref (b := b) hb.lt)
  clear hi24 hz24 hs24 hb24 hf hb hfl hbl
  unfold frAgg
  go_enter Try.func3, Try.ntmps3
  go_wp2_with (first
    | ((with_reducible refine aw_box (dst := some 2) (t := 24) (v := .agg #[.int .i64 f.lsn, .int .i64 f.ep, .int .i64 f.ix, .int .i64 f.ct, .slice fo fl fc]) rfl ?_); intro w1 hb1 hk1 hz1)
    | fail)
  refine (first_law w1).mono ?_
  rintro e w3 ⟨rfl, hk3⟩
  have HB2 : Hid (Blk w3 w.heap.size (frV f (.slice fo fl fc)) 24) := hide (hk3.blk hb1 (fun h => h))
  obtain ⟨b2, hb2e⟩ : ∃ b, b = w.heap.size := ⟨_, rfl⟩
  rw [← hb2e] at HB2 ⊢
  have HK3 := hide (hk1.trans hk3 (fun _ _ h => h))
  have HF3 := hide ((HF.out.kept hk1).kept hk3)
  have HB3 := hide ((HB.out.kept hk1).kept hk3)
  clear hb1 hk1 hk3 hb2e hz1
  have c4 : w3.cell? ⟨b2, 4, none⟩ = some (.slice fo fl fc) := HB2.out.cell 4
  by_cases h1 : 300 < fl
  · go_wp2
    go_ret
    exact ⟨rfl, HK3.out⟩
  by_cases h2 : 300 < bl
  · go_wp2
    go_ret
    exact ⟨rfl, HK3.out⟩
  have HRf : Hid (∀ w, Calls Try.prog 7 #[frAgg f (.slice fo fl fc)] w fun e w' => e = .returned (.bool (rightN f)) ∧ Kept (fun _ => False) w w') := hide (fun w => rright_at w f _ ⟨fo, fc, by rw [Hfl.out]⟩)
  have HQf : Hid (∀ w, Calls Try.prog 11 #[frAgg f (.slice fo fl fc)] w fun e w' => e = .returned (.bool (rightN f)) ∧ Kept (fun _ => False) w w') := hide (fun w => right_at w f _ ⟨fo, fc, by rw [Hfl.out]⟩)
  have HLb : Hid (b.length ≤ 90000000) := hide (by rw [← Hbl.out]; omega)
  have HLb2 : Hid (b.length ≤ 9223372036854775807) := hide (by rw [← Hbl.out]; omega)
  go_wp2_with (first
    | (with_reducible refine aw_load (x := .tmp 2) (M := frV f (.slice fo fl fc)) Try.agg24 rfl HB2.out (by simp [frV]) rfl ?_)
    | fail)
  clear c4 h1 h2
  refine (HRf.out w3).mono ?_
  rintro e w4 ⟨rfl, hk4⟩
  have HB24 := hide (hk4.blk HB2.out (fun h => h))
  have HK4 := hide (HK3.out.trans hk4 (fun _ _ h => h))
  have HF4 := hide (HF3.out.kept hk4)
  have HB4 := hide (HB3.out.kept hk4)
  clear hk4 HB2 HK3 HF3 HB3
  cases hrt : rightN f with
  | false =>
    have Hrt := hide hrt
    clear hrt
    have HGe := hide (get_at w4 _ b HB4.out HLb.out)
    rw [Hgr.out] at HGe
    obtain ⟨g, hg⟩ : ∃ g, g = (refGetN b).1 := ⟨_, rfl⟩
    obtain ⟨er, her⟩ : ∃ er, er = (refGetN b).2 := ⟨_, rfl⟩
    have HRe : Hid (∀ w, Src w (.slice bo bl bc) b → Calls Try.prog 10 #[.slice bo bl bc] w fun e w' => ∃ vb, e = .returned (.tuple #[frAgg g vb, .int .i64 er]) ∧ Src w' vb g.B ∧ Kept (fun _ => False) w w') := hide (fun w h => by rw [hg, her]; exact rget_at w _ b h HLb2.out)
    rw [← hg, ← her] at HGe
    clear hg her
    go_wp2_with fail
    refine HGe.out.mono ?_
    rintro e w6 ⟨vx, rfl, hsx, hk6⟩
    obtain ⟨xo, xc, rfl⟩ := hsx.slice
    obtain ⟨gl, hgl⟩ : ∃ n, n = g.B.length := ⟨_, rfl⟩
    rw [← hgl] at hsx ⊢
    have HB26 := hide (hk6.blk HB24.out (fun h => h))
    have HK6 := hide (HK4.out.trans hk6 (fun _ _ h => h))
    have HF6 := hide (HF4.out.kept hk6)
    have HB6 := hide (HB4.out.kept hk6)
    have HX6 := hide hsx
    have Hgl := hide hgl
    have HOx := hide (frV_one g xo gl xc)
    clear hk6 hsx hgl HGe HB24 HK4 HF4 HB4
    simp only []
    go_wp2_with (first
      | ((with_reducible refine aw_alloc (dst := some 6) Hi24.out Hz24.out ?_); intro w7 hb7 hk7 hz7)
      | ((with_reducible refine aw_store (x := .tmp 6) (M := frV g (.slice xo gl xc)) Try.agg24 rfl rfl rfl HOx.out hb7 (by simp [Value.cells]) ?_); intro w8 hw8 hk8 hz8; rw [put_whole _ _ (by simp [Value.cells, frV])] at hw8)
      | fail)
    have hk68 : Kept (fun _ => False) w6 w8 := hk7.trans hk8 (fun i hi h => by omega)
    obtain ⟨b6, hb6⟩ : ∃ b, b = w6.heap.size := ⟨_, rfl⟩
    rw [← hb6] at hw8 ⊢
    have HB68 := hide hw8
    have HB28 := hide (hk68.blk HB26.out (fun h => h))
    have HK8 := hide (HK6.out.trans hk68 (fun _ _ h => h))
    have HF8 := hide (HF6.out.kept hk68)
    have HB8 := hide (HB6.out.kept hk68)
    have HX8 := hide (HX6.out.kept hk68)
    clear hb6 hw8 hk7 hk8 hz7 hz8 hb7 hk68 HB26 HK6 HF6 HB6 HX6 HOx
    refine (HRe.out w8 HB8.out).mono ?_
    rintro e w9 ⟨vy, rfl, hsy, hk9⟩
    obtain ⟨yo, yc, rfl⟩ := hsy.slice
    rw [← Hgl.out] at hsy ⊢
    have HB29 := hide (hk9.blk HB28.out (fun h => h))
    have HB69 := hide (hk9.blk HB68.out (fun h => h))
    have HK9 := hide (HK8.out.trans hk9 (fun _ _ h => h))
    have HF9 := hide (HF8.out.kept hk9)
    have HX9 := hide (HX8.out.kept hk9)
    have HY9 := hide hsy
    have HOy := hide (frV_one g yo gl yc)
    clear hk9 hsy HRe HB28 HB68 HK8 HF8 HB8 HX8
    simp only []
    go_wp2_with (first
      | ((with_reducible refine aw_alloc (dst := some 8) Hi24.out Hz24.out ?_); intro w10 hb10 hk10 hz10)
      | ((with_reducible refine aw_store (x := .tmp 8) (M := frV g (.slice yo gl yc)) Try.agg24 rfl rfl rfl HOy.out hb10 (by simp [Value.cells]) ?_); intro w11 hw11 hk11 hz11; rw [put_whole _ _ (by simp [Value.cells, frV])] at hw11)
      | fail)
    have hk911 : Kept (fun _ => False) w9 w11 := hk10.trans hk11 (fun i hi h => by omega)
    obtain ⟨b8, hb8⟩ : ∃ b, b = w9.heap.size := ⟨_, rfl⟩
    rw [← hb8] at hw11 ⊢
    have HB8b := hide hw11
    have HB2b := hide (hk911.blk HB29.out (fun h => h))
    have HB6b := hide (hk911.blk HB69.out (fun h => h))
    have HKb := hide (HK9.out.trans hk911 (fun _ _ h => h))
    have HFb := hide (HF9.out.kept hk911)
    have HXb := hide (HX9.out.kept hk911)
    have HYb := hide (HY9.out.kept hk911)
    clear hb8 hw11 hk10 hk11 hz10 hz11 hb10 hk911 HB29 HB69 HK9 HF9 HX9 HY9 HOy
    refine hold_frame (p := fun fr => Code.wp Try.prog _ _ fr _) ?_
    intro fr hfr
    have e2 : fr.eval (.tmp 2) = .pointer (some ⟨b2, 0, none⟩) := by rw [hfr.out]; rfl
    have e5 : fr.eval (.tmp 5) = .string ⟨#[]⟩ := by rw [hfr.out]; rfl
    have e6 : fr.eval (.tmp 6) = .pointer (some ⟨b6, 0, none⟩) := by rw [hfr.out]; rfl
    have e7 : fr.eval (.tmp 7) = .int .i64 er := by rw [hfr.out]; rfl
    have e8 : fr.eval (.tmp 8) = .pointer (some ⟨b8, 0, none⟩) := by rw [hfr.out]; rfl
    have e9 : fr.eval (.tmp 9) = .int .i64 er := by rw [hfr.out]; rfl
    have hts : fr.tmps.size = 57 := by rw [hfr.out]; rfl
    refine region_S0 99 Try.mixed ?_
    intro w0 hkw hheap
    have HB20 := hide (hkw.blk HB2b.out (fun h => h))
    have HB60 := hide (hkw.blk HB6b.out (fun h => h))
    have HB80 := hide (hkw.blk HB8b.out (fun h => h))
    have HF0 := hide (HFb.out.kept hkw)
    have HX0 := hide (HXb.out.kept hkw)
    have HY0 := hide (HYb.out.kept hkw)
    have HK0 := hide (HKb.out.trans hkw (fun _ _ h => h))
    clear HB2b HB6b HB8b HFb HXb HYb HKb
    have hS0 : Kept (fun _ => False) w0 w0 := Kept.refl (fun _ => False) w0
    refine ⟨Kept (fun _ => False) w0, ?_⟩
    refine tkS 0 35 (v := frAgg f (.slice fo fl fc)) hS0 rfl rfl (by kernel_rfl) (by kernel_rfl) (by kernel_rfl) (by kernel_rfl) (wanted_none rfl) (fun _ _ _ h => h) (fun U hU => run_load24 (by simp [eval_put_ne, eval_put_eq, size_put, hts, e2]) (((hS0).trans hU (fun _ _ h => h)).blk HB20.out (fun h => h))) ?_
    refine tkS 2 37 (v := frAgg f (.slice fo fl fc)) hS0 rfl rfl (by kernel_rfl) (by kernel_rfl) (by kernel_rfl) (by kernel_rfl) (wanted_none rfl) (fun _ _ _ h => h) (fun U hU => run_load24 (by simp [eval_put_ne, eval_put_eq, size_put, hts, e2]) (((hS0).trans hU (fun _ _ h => h)).blk HB20.out (fun h => h))) ?_
    refine oneCS 1 36 (by kernel_rfl) rfl rfl (wanted_none rfl) (r_call1 Try.func11 (by kernel_rfl) rfl rfl (by simp [eval_put_ne, eval_put_eq, size_put, hts])) (HQf.out w0) ?_
    rintro e u1 ⟨rfl, hk1⟩
    refine ⟨_, rfl, hk1, ?_⟩
    refine raiseM (S' := Kept (fun _ => False) u1) (fun U hU => hk1.trans hU (fun _ _ h => h)) ?_
    have hS1 : (Kept (fun _ => False) u1) _ := Kept.refl _ _
    refine oneCS 3 38 (by kernel_rfl) rfl rfl (wanted_none rfl) (r_call1 Try.func7 (by kernel_rfl) rfl rfl (by simp [eval_put_ne, eval_put_eq, size_put, hts])) (HRf.out u1) ?_
    rintro e u2 ⟨rfl, hk2⟩
    refine ⟨_, rfl, hk2, ?_⟩
    have kk2 := hk1.trans hk2 (fun _ _ h => h)
    refine raiseM (S' := Kept (fun _ => False) u2) (fun U hU => hk2.trans hU (fun _ _ h => h)) ?_
    have hS2 : (Kept (fun _ => False) u2) _ := Kept.refl _ _
    refine tkS 4 39 (v := .bool true) hS2 rfl rfl (by kernel_rfl) (by kernel_rfl) (by kernel_rfl) (by kernel_rfl) (wanted_none rfl) (fun _ _ _ h => h) (fun U hU => (r_eql4 (p := rightN f) (q := rightN f) (by simp [eval_put_ne, eval_put_eq, size_put, hts]) (by simp [eval_put_ne, eval_put_eq, size_put, hts])).trans (by simp)) ?_
    refine tkS 5 40 (v := .bool true) hS2 rfl rfl (by kernel_rfl) (by kernel_rfl) (by kernel_rfl) (by kernel_rfl) (wanted_none rfl) (fun _ _ _ h => h) (fun U hU => r_move (by simp [eval_put_ne, eval_put_eq, size_put, hts])) ?_
    refine tkS 6 41 (v := frAgg f (.slice fo fl fc)) hS2 rfl rfl (by kernel_rfl) (by kernel_rfl) (by kernel_rfl) (by kernel_rfl) (wanted_some (j := 5) (d := 40) (bb := true) rfl rfl rfl (by simp [eval_put_ne, eval_put_eq, size_put, hts]) (by simp [size_put, hts])) (fun _ _ _ h => h) (fun U hU => run_load24 (by simp [eval_put_ne, eval_put_eq, size_put, hts, e2]) (((kk2).trans hU (fun _ _ h => h)).blk HB20.out (fun h => h))) ?_
    refine tkS 9 44 (v := .string ⟨#[]⟩) hS2 rfl rfl (by kernel_rfl) (by kernel_rfl) (by kernel_rfl) (by kernel_rfl) (wanted_some (j := 5) (d := 40) (bb := true) rfl rfl rfl (by simp [eval_put_ne, eval_put_eq, size_put, hts]) (by simp [size_put, hts])) (fun _ _ _ h => h) (fun U hU => r_move (by simp [eval_put_ne, eval_put_eq, size_put, hts, e5])) ?_
    refine oneCS 7 42 (by kernel_rfl) rfl rfl (wanted_some (j := 5) (d := 40) (bb := true) rfl rfl rfl (by simp [eval_put_ne, eval_put_eq, size_put, hts]) (by simp [size_put, hts])) (r_call1 Try.func12 (by kernel_rfl) rfl rfl (by simp [eval_put_ne, eval_put_eq, size_put, hts])) (put_no u2 f (.slice fo fl fc) ⟨_, _, by rw [Hfl.out]⟩ Hrt.out) ?_
    rintro e u3 ⟨rfl, hk3⟩
    refine ⟨_, rfl, hk3, ?_⟩
    have kk3 := kk2.trans hk3 (fun _ _ h => h)
    refine raiseM (S' := Kept (fun _ => False) u3) (fun U hU => hk3.trans hU (fun _ _ h => h)) ?_
    have hS3 : (Kept (fun _ => False) u3) _ := Kept.refl _ _
    refine tkS 8 43 (v := .string (strN (([] : List Nat)))) hS3 rfl rfl (by kernel_rfl) (by kernel_rfl) (by kernel_rfl) (by kernel_rfl) (wanted_some (j := 5) (d := 40) (bb := true) rfl rfl rfl (by simp [eval_put_ne, eval_put_eq, size_put, hts]) (by simp [size_put, hts])) (fun _ _ _ h => h) (fun U hU => r_strS (v := .slice none 0 0) (by simp [eval_put_ne, eval_put_eq, size_put, hts]) (Src.nil U)) ?_
    refine tkS 10 45 (v := .bool true) hS3 rfl rfl (by kernel_rfl) (by kernel_rfl) (by kernel_rfl) (by kernel_rfl) (wanted_some (j := 5) (d := 40) (bb := true) rfl rfl rfl (by simp [eval_put_ne, eval_put_eq, size_put, hts]) (by simp [size_put, hts])) (fun _ _ _ h => h) (fun U hU => (r_eql9 (p := strN (([] : List Nat))) (q := ⟨#[]⟩) (by simp [eval_put_ne, eval_put_eq, size_put, hts]) (by simp [eval_put_ne, eval_put_eq, size_put, hts])).trans (by rw [strN_nil]; simp)) ?_
    refine tkS 11 46 (v := .bool true) hS3 rfl rfl (by kernel_rfl) (by kernel_rfl) (by kernel_rfl) (by kernel_rfl) (wanted_none rfl) (fun _ _ _ h => h) (fun U hU => r_pick (by simp [eval_put_ne, eval_put_eq, size_put, hts]) (by simp [eval_put_ne, eval_put_eq, size_put, hts])) ?_
    refine tkS 12 47 (v := .bool true) hS3 rfl rfl (by kernel_rfl) (by kernel_rfl) (by kernel_rfl) (by kernel_rfl) (wanted_none rfl) (fun _ _ _ h => h) (fun U hU => r_move (by simp [eval_put_ne, eval_put_eq, size_put, hts])) ?_
    refine tkS 13 48 (v := frAgg g (.slice xo gl xc)) hS3 rfl rfl (by kernel_rfl) (by kernel_rfl) (by kernel_rfl) (by kernel_rfl) (wanted_some (j := 12) (d := 47) (bb := true) rfl rfl rfl (by simp [eval_put_ne, eval_put_eq, size_put, hts]) (by simp [size_put, hts])) (fun _ _ _ h => h) (fun U hU => run_load24 (by simp [eval_put_ne, eval_put_eq, size_put, hts, e6]) (((kk3).trans hU (fun _ _ h => h)).blk HB60.out (fun h => h))) ?_
    refine tkS 14 49 (v := frAgg g (.slice yo gl yc)) hS3 rfl rfl (by kernel_rfl) (by kernel_rfl) (by kernel_rfl) (by kernel_rfl) (wanted_some (j := 12) (d := 47) (bb := true) rfl rfl rfl (by simp [eval_put_ne, eval_put_eq, size_put, hts]) (by simp [size_put, hts])) (fun _ _ _ h => h) (fun U hU => run_load24 (by simp [eval_put_ne, eval_put_eq, size_put, hts, e8]) (((kk3).trans hU (fun _ _ h => h)).blk HB80.out (fun h => h))) ?_
    refine oneCS 15 50 (by kernel_rfl) rfl rfl (wanted_some (j := 12) (d := 47) (bb := true) rfl rfl rfl (by simp [eval_put_ne, eval_put_eq, size_put, hts]) (by simp [size_put, hts])) (r_call2 Try.func13 (by kernel_rfl) rfl rfl (by simp [eval_put_ne, eval_put_eq, size_put, hts]) (by simp [eval_put_ne, eval_put_eq, size_put, hts])) (same_at u3 g g _ _ (HX0.out.kept kk3) (HY0.out.kept kk3)) ?_
    rintro e u4 ⟨rfl, hk4⟩
    rw [sameN_self]
    refine ⟨_, rfl, hk4, ?_⟩
    have kk4 := kk3.trans hk4 (fun _ _ h => h)
    refine raiseM (S' := Kept (fun _ => False) u4) (fun U hU => hk4.trans hU (fun _ _ h => h)) ?_
    have hS4 : (Kept (fun _ => False) u4) _ := Kept.refl _ _
    refine tkS 16 51 (v := .bool true) hS4 rfl rfl (by kernel_rfl) (by kernel_rfl) (by kernel_rfl) (by kernel_rfl) (wanted_none rfl) (fun _ _ _ h => h) (fun U hU => r_pick (by simp [eval_put_ne, eval_put_eq, size_put, hts]) (by simp [eval_put_ne, eval_put_eq, size_put, hts])) ?_
    refine tkS 17 52 (v := .bool true) hS4 rfl rfl (by kernel_rfl) (by kernel_rfl) (by kernel_rfl) (by kernel_rfl) (wanted_none rfl) (fun _ _ _ h => h) (fun U hU => r_move (by simp [eval_put_ne, eval_put_eq, size_put, hts])) ?_
    refine tkS 18 53 (v := .int .i64 er) hS4 rfl rfl (by kernel_rfl) (by kernel_rfl) (by kernel_rfl) (by kernel_rfl) (wanted_some (j := 17) (d := 52) (bb := true) rfl rfl rfl (by simp [eval_put_ne, eval_put_eq, size_put, hts]) (by simp [size_put, hts])) (fun _ _ _ h => h) (fun U hU => r_move (by simp [eval_put_ne, eval_put_eq, size_put, hts, e7])) ?_
    refine tkS 19 54 (v := .int .i64 er) hS4 rfl rfl (by kernel_rfl) (by kernel_rfl) (by kernel_rfl) (by kernel_rfl) (wanted_some (j := 17) (d := 52) (bb := true) rfl rfl rfl (by simp [eval_put_ne, eval_put_eq, size_put, hts]) (by simp [size_put, hts])) (fun _ _ _ h => h) (fun U hU => r_move (by simp [eval_put_ne, eval_put_eq, size_put, hts, e9])) ?_
    refine tkS 20 55 (v := .bool true) hS4 rfl rfl (by kernel_rfl) (by kernel_rfl) (by kernel_rfl) (by kernel_rfl) (wanted_some (j := 17) (d := 52) (bb := true) rfl rfl rfl (by simp [eval_put_ne, eval_put_eq, size_put, hts]) (by simp [size_put, hts])) (fun _ _ _ h => h) (fun U hU => (r_eql3 (p := er) (q := er) (by simp [eval_put_ne, eval_put_eq, size_put, hts]) (by simp [eval_put_ne, eval_put_eq, size_put, hts])).trans (by simp)) ?_
    refine tkS 21 56 (v := .bool true) hS4 rfl rfl (by kernel_rfl) (by kernel_rfl) (by kernel_rfl) (by kernel_rfl) (wanted_none rfl) (fun _ _ _ h => h) (fun U hU => r_pick (by simp [eval_put_ne, eval_put_eq, size_put, hts]) (by simp [eval_put_ne, eval_put_eq, size_put, hts])) ?_
    refine tkS 22 4 (v := .bool true) hS4 rfl rfl (by kernel_rfl) (by kernel_rfl) (by kernel_rfl) (by kernel_rfl) (wanted_none rfl) (fun _ _ _ h => h) (fun U hU => r_assign (by simp [eval_put_ne, eval_put_eq, size_put, hts])) ?_
    refine doneS (by kernel_rfl) ?_
    rw [hfr.out]
    clear hfr e2 e5 e6 e7 e8 e9 hts
    simp only [put_lit, put_none, List.set_cons_succ, List.set_cons_zero]
    have HKe := hide (HK0.out.trans kk4 (fun _ _ h => h))
    clear hS0 hS1 hS2 hS3 hS4 hk1 hk2 hk3 hk4 kk2 kk3 kk4 hkw hheap HB20 HB60 HB80 HF0 HX0 HY0 HK0
    go_wp2
    go_ret
    exact ⟨rfl, HKe.out⟩
  | true =>
  have Hrt := hide hrt
  clear hrt
  go_wp2_with (first
    | (with_reducible refine aw_load (x := .tmp 2) (M := frV f (.slice fo fl fc)) Try.agg24 rfl HB24.out (by simp [frV]) rfl ?_)
    | fail)
  refine (rput_at w4 f (.slice fo fl fc) HF4.out Hrt.out).mono ?_
  rintro e w5 ⟨rfl, hk5⟩
  have HB25 := hide (hk5.blk HB24.out (fun h => h))
  have HK5 := hide (HK4.out.trans hk5 (fun _ _ h => h))
  have HF5 := hide (HF4.out.kept hk5)
  have HB5 := hide (HB4.out.kept hk5)
  clear hk5 HB24 HK4 HF4 HB4
  have HGe := hide (get_at w5 _ b HB5.out HLb.out)
  rw [Hgr.out] at HGe
  obtain ⟨g, hg⟩ : ∃ g, g = (refGetN b).1 := ⟨_, rfl⟩
  obtain ⟨er, her⟩ : ∃ er, er = (refGetN b).2 := ⟨_, rfl⟩
  have HRe : Hid (∀ w, Src w (.slice bo bl bc) b → Calls Try.prog 10 #[.slice bo bl bc] w fun e w' => ∃ vb, e = .returned (.tuple #[frAgg g vb, .int .i64 er]) ∧ Src w' vb g.B ∧ Kept (fun _ => False) w w') := hide (fun w h => by rw [hg, her]; exact rget_at w _ b h HLb2.out)
  rw [← hg, ← her] at HGe
  clear hg her
  go_wp2_with fail
  refine HGe.out.mono ?_
  rintro e w6 ⟨vx, rfl, hsx, hk6⟩
  obtain ⟨xo, xc, rfl⟩ := hsx.slice
  obtain ⟨gl, hgl⟩ : ∃ n, n = g.B.length := ⟨_, rfl⟩
  rw [← hgl] at hsx ⊢
  have HB26 := hide (hk6.blk HB25.out (fun h => h))
  have HK6 := hide (HK5.out.trans hk6 (fun _ _ h => h))
  have HF6 := hide (HF5.out.kept hk6)
  have HB6 := hide (HB5.out.kept hk6)
  have HX6 := hide hsx
  have Hgl := hide hgl
  have HOx := hide (frV_one g xo gl xc)
  clear hk6 hsx hgl HGe HB25 HK5 HF5 HB5
  simp only []
  go_wp2_with (first
    | ((with_reducible refine aw_alloc (dst := some 6) Hi24.out Hz24.out ?_); intro w7 hb7 hk7 hz7)
    | ((with_reducible refine aw_store (x := .tmp 6) (M := frV g (.slice xo gl xc)) Try.agg24 rfl rfl rfl HOx.out hb7 (by simp [Value.cells]) ?_); intro w8 hw8 hk8 hz8; rw [put_whole _ _ (by simp [Value.cells, frV])] at hw8)
    | fail)
  have hk68 : Kept (fun _ => False) w6 w8 := hk7.trans hk8 (fun i hi h => by omega)
  obtain ⟨b6, hb6⟩ : ∃ b, b = w6.heap.size := ⟨_, rfl⟩
  rw [← hb6] at hw8 ⊢
  have HB68 := hide hw8
  have HB28 := hide (hk68.blk HB26.out (fun h => h))
  have HK8 := hide (HK6.out.trans hk68 (fun _ _ h => h))
  have HF8 := hide (HF6.out.kept hk68)
  have HB8 := hide (HB6.out.kept hk68)
  have HX8 := hide (HX6.out.kept hk68)
  clear hb6 hw8 hk7 hk8 hz7 hz8 hb7 hk68 HB26 HK6 HF6 HB6 HX6 HOx
  refine (HRe.out w8 HB8.out).mono ?_
  rintro e w9 ⟨vy, rfl, hsy, hk9⟩
  obtain ⟨yo, yc, rfl⟩ := hsy.slice
  rw [← Hgl.out] at hsy ⊢
  have HB29 := hide (hk9.blk HB28.out (fun h => h))
  have HB69 := hide (hk9.blk HB68.out (fun h => h))
  have HK9 := hide (HK8.out.trans hk9 (fun _ _ h => h))
  have HF9 := hide (HF8.out.kept hk9)
  have HX9 := hide (HX8.out.kept hk9)
  have HY9 := hide hsy
  have HOy := hide (frV_one g yo gl yc)
  clear hk9 hsy HRe HB28 HB68 HK8 HF8 HB8 HX8
  simp only []
  go_wp2_with (first
    | ((with_reducible refine aw_alloc (dst := some 8) Hi24.out Hz24.out ?_); intro w10 hb10 hk10 hz10)
    | ((with_reducible refine aw_store (x := .tmp 8) (M := frV g (.slice yo gl yc)) Try.agg24 rfl rfl rfl HOy.out hb10 (by simp [Value.cells]) ?_); intro w11 hw11 hk11 hz11; rw [put_whole _ _ (by simp [Value.cells, frV])] at hw11)
    | fail)
  have hk911 : Kept (fun _ => False) w9 w11 := hk10.trans hk11 (fun i hi h => by omega)
  obtain ⟨b8, hb8⟩ : ∃ b, b = w9.heap.size := ⟨_, rfl⟩
  rw [← hb8] at hw11 ⊢
  have HB8b := hide hw11
  have HB2b := hide (hk911.blk HB29.out (fun h => h))
  have HB6b := hide (hk911.blk HB69.out (fun h => h))
  have HKb := hide (HK9.out.trans hk911 (fun _ _ h => h))
  have HFb := hide (HF9.out.kept hk911)
  have HXb := hide (HX9.out.kept hk911)
  have HYb := hide (HY9.out.kept hk911)
  clear hb8 hw11 hk10 hk11 hz10 hz11 hb10 hk911 HB29 HB69 HK9 HF9 HX9 HY9 HOy
  refine hold_frame (p := fun fr => Code.wp Try.prog _ _ fr _) ?_
  intro fr hfr
  have e2 : fr.eval (.tmp 2) = .pointer (some ⟨b2, 0, none⟩) := by rw [hfr.out]; rfl
  have e5 : fr.eval (.tmp 5) = .string (strN (putN f)) := by rw [hfr.out]; rfl
  have e6 : fr.eval (.tmp 6) = .pointer (some ⟨b6, 0, none⟩) := by rw [hfr.out]; rfl
  have e7 : fr.eval (.tmp 7) = .int .i64 er := by rw [hfr.out]; rfl
  have e8 : fr.eval (.tmp 8) = .pointer (some ⟨b8, 0, none⟩) := by rw [hfr.out]; rfl
  have e9 : fr.eval (.tmp 9) = .int .i64 er := by rw [hfr.out]; rfl
  have hts : fr.tmps.size = 57 := by rw [hfr.out]; rfl
  refine region_S0 99 Try.mixed ?_
  intro w0 hkw hheap
  have HB20 := hide (hkw.blk HB2b.out (fun h => h))
  have HB60 := hide (hkw.blk HB6b.out (fun h => h))
  have HB80 := hide (hkw.blk HB8b.out (fun h => h))
  have HF0 := hide (HFb.out.kept hkw)
  have HX0 := hide (HXb.out.kept hkw)
  have HY0 := hide (HYb.out.kept hkw)
  have HK0 := hide (HKb.out.trans hkw (fun _ _ h => h))
  clear HB2b HB6b HB8b HFb HXb HYb HKb
  have hS0 : Kept (fun _ => False) w0 w0 := Kept.refl (fun _ => False) w0
  refine ⟨Kept (fun _ => False) w0, ?_⟩
  refine tkS 0 35 (v := frAgg f (.slice fo fl fc)) hS0 rfl rfl (by kernel_rfl) (by kernel_rfl) (by kernel_rfl) (by kernel_rfl) (wanted_none rfl) (fun _ _ _ h => h) (fun U hU => run_load24 (by simp [eval_put_ne, eval_put_eq, size_put, hts, e2]) (((hS0).trans hU (fun _ _ h => h)).blk HB20.out (fun h => h))) ?_
  refine tkS 2 37 (v := frAgg f (.slice fo fl fc)) hS0 rfl rfl (by kernel_rfl) (by kernel_rfl) (by kernel_rfl) (by kernel_rfl) (wanted_none rfl) (fun _ _ _ h => h) (fun U hU => run_load24 (by simp [eval_put_ne, eval_put_eq, size_put, hts, e2]) (((hS0).trans hU (fun _ _ h => h)).blk HB20.out (fun h => h))) ?_
  refine oneCS 1 36 (by kernel_rfl) rfl rfl (wanted_none rfl) (r_call1 Try.func11 (by kernel_rfl) rfl rfl (by simp [eval_put_ne, eval_put_eq, size_put, hts])) (HQf.out w0) ?_
  rintro e u1 ⟨rfl, hk1⟩
  refine ⟨_, rfl, hk1, ?_⟩
  refine raiseM (S' := Kept (fun _ => False) u1) (fun U hU => hk1.trans hU (fun _ _ h => h)) ?_
  have hS1 : (Kept (fun _ => False) u1) _ := Kept.refl _ _
  refine oneCS 3 38 (by kernel_rfl) rfl rfl (wanted_none rfl) (r_call1 Try.func7 (by kernel_rfl) rfl rfl (by simp [eval_put_ne, eval_put_eq, size_put, hts])) (HRf.out u1) ?_
  rintro e u2 ⟨rfl, hk2⟩
  refine ⟨_, rfl, hk2, ?_⟩
  have kk2 := hk1.trans hk2 (fun _ _ h => h)
  refine raiseM (S' := Kept (fun _ => False) u2) (fun U hU => hk2.trans hU (fun _ _ h => h)) ?_
  have hS2 : (Kept (fun _ => False) u2) _ := Kept.refl _ _
  refine tkS 4 39 (v := .bool true) hS2 rfl rfl (by kernel_rfl) (by kernel_rfl) (by kernel_rfl) (by kernel_rfl) (wanted_none rfl) (fun _ _ _ h => h) (fun U hU => (r_eql4 (p := rightN f) (q := rightN f) (by simp [eval_put_ne, eval_put_eq, size_put, hts]) (by simp [eval_put_ne, eval_put_eq, size_put, hts])).trans (by simp)) ?_
  refine tkS 5 40 (v := .bool true) hS2 rfl rfl (by kernel_rfl) (by kernel_rfl) (by kernel_rfl) (by kernel_rfl) (wanted_none rfl) (fun _ _ _ h => h) (fun U hU => r_move (by simp [eval_put_ne, eval_put_eq, size_put, hts])) ?_
  refine tkS 6 41 (v := frAgg f (.slice fo fl fc)) hS2 rfl rfl (by kernel_rfl) (by kernel_rfl) (by kernel_rfl) (by kernel_rfl) (wanted_some (j := 5) (d := 40) (bb := true) rfl rfl rfl (by simp [eval_put_ne, eval_put_eq, size_put, hts]) (by simp [size_put, hts])) (fun _ _ _ h => h) (fun U hU => run_load24 (by simp [eval_put_ne, eval_put_eq, size_put, hts, e2]) (((kk2).trans hU (fun _ _ h => h)).blk HB20.out (fun h => h))) ?_
  refine tkS 9 44 (v := .string (strN (putN f))) hS2 rfl rfl (by kernel_rfl) (by kernel_rfl) (by kernel_rfl) (by kernel_rfl) (wanted_some (j := 5) (d := 40) (bb := true) rfl rfl rfl (by simp [eval_put_ne, eval_put_eq, size_put, hts]) (by simp [size_put, hts])) (fun _ _ _ h => h) (fun U hU => r_move (by simp [eval_put_ne, eval_put_eq, size_put, hts, e5])) ?_
  refine oneCS 7 42 (by kernel_rfl) rfl rfl (wanted_some (j := 5) (d := 40) (bb := true) rfl rfl rfl (by simp [eval_put_ne, eval_put_eq, size_put, hts]) (by simp [size_put, hts])) (r_call1 Try.func12 (by kernel_rfl) rfl rfl (by simp [eval_put_ne, eval_put_eq, size_put, hts])) (put_src u2 f _ (HF0.out.kept kk2) Hrt.out) ?_
  rintro e u3 ⟨g1, rfl, hs3, hk3⟩
  refine ⟨_, rfl, hk3, ?_⟩
  have kk3 := kk2.trans hk3 (fun _ _ h => h)
  refine raiseM (S' := Kept (fun _ => False) u3) (fun U hU => hk3.trans hU (fun _ _ h => h)) ?_
  have hS3 : (Kept (fun _ => False) u3) _ := Kept.refl _ _
  refine tkS 8 43 (v := .string (strN (putN f))) hS3 rfl rfl (by kernel_rfl) (by kernel_rfl) (by kernel_rfl) (by kernel_rfl) (wanted_some (j := 5) (d := 40) (bb := true) rfl rfl rfl (by simp [eval_put_ne, eval_put_eq, size_put, hts]) (by simp [size_put, hts])) (fun _ _ _ h => h) (fun U hU => r_strS (v := .slice (some ⟨g1, 0, none⟩) 64 64) (by simp [eval_put_ne, eval_put_eq, size_put, hts]) (hs3.kept hU)) ?_
  refine tkS 10 45 (v := .bool true) hS3 rfl rfl (by kernel_rfl) (by kernel_rfl) (by kernel_rfl) (by kernel_rfl) (wanted_some (j := 5) (d := 40) (bb := true) rfl rfl rfl (by simp [eval_put_ne, eval_put_eq, size_put, hts]) (by simp [size_put, hts])) (fun _ _ _ h => h) (fun U hU => (r_eql9 (p := strN (putN f)) (q := strN (putN f)) (by simp [eval_put_ne, eval_put_eq, size_put, hts]) (by simp [eval_put_ne, eval_put_eq, size_put, hts])).trans (by simp)) ?_
  refine tkS 11 46 (v := .bool true) hS3 rfl rfl (by kernel_rfl) (by kernel_rfl) (by kernel_rfl) (by kernel_rfl) (wanted_none rfl) (fun _ _ _ h => h) (fun U hU => r_pick (by simp [eval_put_ne, eval_put_eq, size_put, hts]) (by simp [eval_put_ne, eval_put_eq, size_put, hts])) ?_
  refine tkS 12 47 (v := .bool true) hS3 rfl rfl (by kernel_rfl) (by kernel_rfl) (by kernel_rfl) (by kernel_rfl) (wanted_none rfl) (fun _ _ _ h => h) (fun U hU => r_move (by simp [eval_put_ne, eval_put_eq, size_put, hts])) ?_
  refine tkS 13 48 (v := frAgg g (.slice xo gl xc)) hS3 rfl rfl (by kernel_rfl) (by kernel_rfl) (by kernel_rfl) (by kernel_rfl) (wanted_some (j := 12) (d := 47) (bb := true) rfl rfl rfl (by simp [eval_put_ne, eval_put_eq, size_put, hts]) (by simp [size_put, hts])) (fun _ _ _ h => h) (fun U hU => run_load24 (by simp [eval_put_ne, eval_put_eq, size_put, hts, e6]) (((kk3).trans hU (fun _ _ h => h)).blk HB60.out (fun h => h))) ?_
  refine tkS 14 49 (v := frAgg g (.slice yo gl yc)) hS3 rfl rfl (by kernel_rfl) (by kernel_rfl) (by kernel_rfl) (by kernel_rfl) (wanted_some (j := 12) (d := 47) (bb := true) rfl rfl rfl (by simp [eval_put_ne, eval_put_eq, size_put, hts]) (by simp [size_put, hts])) (fun _ _ _ h => h) (fun U hU => run_load24 (by simp [eval_put_ne, eval_put_eq, size_put, hts, e8]) (((kk3).trans hU (fun _ _ h => h)).blk HB80.out (fun h => h))) ?_
  refine oneCS 15 50 (by kernel_rfl) rfl rfl (wanted_some (j := 12) (d := 47) (bb := true) rfl rfl rfl (by simp [eval_put_ne, eval_put_eq, size_put, hts]) (by simp [size_put, hts])) (r_call2 Try.func13 (by kernel_rfl) rfl rfl (by simp [eval_put_ne, eval_put_eq, size_put, hts]) (by simp [eval_put_ne, eval_put_eq, size_put, hts])) (same_at u3 g g _ _ (HX0.out.kept kk3) (HY0.out.kept kk3)) ?_
  rintro e u4 ⟨rfl, hk4⟩
  rw [sameN_self]
  refine ⟨_, rfl, hk4, ?_⟩
  have kk4 := kk3.trans hk4 (fun _ _ h => h)
  refine raiseM (S' := Kept (fun _ => False) u4) (fun U hU => hk4.trans hU (fun _ _ h => h)) ?_
  have hS4 : (Kept (fun _ => False) u4) _ := Kept.refl _ _
  refine tkS 16 51 (v := .bool true) hS4 rfl rfl (by kernel_rfl) (by kernel_rfl) (by kernel_rfl) (by kernel_rfl) (wanted_none rfl) (fun _ _ _ h => h) (fun U hU => r_pick (by simp [eval_put_ne, eval_put_eq, size_put, hts]) (by simp [eval_put_ne, eval_put_eq, size_put, hts])) ?_
  refine tkS 17 52 (v := .bool true) hS4 rfl rfl (by kernel_rfl) (by kernel_rfl) (by kernel_rfl) (by kernel_rfl) (wanted_none rfl) (fun _ _ _ h => h) (fun U hU => r_move (by simp [eval_put_ne, eval_put_eq, size_put, hts])) ?_
  refine tkS 18 53 (v := .int .i64 er) hS4 rfl rfl (by kernel_rfl) (by kernel_rfl) (by kernel_rfl) (by kernel_rfl) (wanted_some (j := 17) (d := 52) (bb := true) rfl rfl rfl (by simp [eval_put_ne, eval_put_eq, size_put, hts]) (by simp [size_put, hts])) (fun _ _ _ h => h) (fun U hU => r_move (by simp [eval_put_ne, eval_put_eq, size_put, hts, e7])) ?_
  refine tkS 19 54 (v := .int .i64 er) hS4 rfl rfl (by kernel_rfl) (by kernel_rfl) (by kernel_rfl) (by kernel_rfl) (wanted_some (j := 17) (d := 52) (bb := true) rfl rfl rfl (by simp [eval_put_ne, eval_put_eq, size_put, hts]) (by simp [size_put, hts])) (fun _ _ _ h => h) (fun U hU => r_move (by simp [eval_put_ne, eval_put_eq, size_put, hts, e9])) ?_
  refine tkS 20 55 (v := .bool true) hS4 rfl rfl (by kernel_rfl) (by kernel_rfl) (by kernel_rfl) (by kernel_rfl) (wanted_some (j := 17) (d := 52) (bb := true) rfl rfl rfl (by simp [eval_put_ne, eval_put_eq, size_put, hts]) (by simp [size_put, hts])) (fun _ _ _ h => h) (fun U hU => (r_eql3 (p := er) (q := er) (by simp [eval_put_ne, eval_put_eq, size_put, hts]) (by simp [eval_put_ne, eval_put_eq, size_put, hts])).trans (by simp)) ?_
  refine tkS 21 56 (v := .bool true) hS4 rfl rfl (by kernel_rfl) (by kernel_rfl) (by kernel_rfl) (by kernel_rfl) (wanted_none rfl) (fun _ _ _ h => h) (fun U hU => r_pick (by simp [eval_put_ne, eval_put_eq, size_put, hts]) (by simp [eval_put_ne, eval_put_eq, size_put, hts])) ?_
  refine tkS 22 4 (v := .bool true) hS4 rfl rfl (by kernel_rfl) (by kernel_rfl) (by kernel_rfl) (by kernel_rfl) (wanted_none rfl) (fun _ _ _ h => h) (fun U hU => r_assign (by simp [eval_put_ne, eval_put_eq, size_put, hts])) ?_
  refine doneS (by kernel_rfl) ?_
  rw [hfr.out]
  clear hfr e2 e5 e6 e7 e8 e9 hts
  simp only [put_lit, put_none, List.set_cons_succ, List.set_cons_zero]
  have HKe := hide (HK0.out.trans kk4 (fun _ _ h => h))
  clear hS0 hS1 hS2 hS3 hS4 hk1 hk2 hk3 hk4 kk2 kk3 kk4 hkw hheap HB20 HB60 HB80 HF0 HX0 HY0 HK0 hs3
  go_wp2
  go_ret
  exact ⟨rfl, HKe.out⟩
end Go.Proofs.Ytjkggmjcaedggaa
