/-
  FlowMakes, walked.
-/
import Derived.Test.YtgeffdoepcbhiaaFOps
namespace Go.Proofs.Ytgeffdoepcbhiaa
open Go.RowKit Go.Shelf
set_option linter.unusedSimpArgs false
set_option linter.unusedVariables false
attribute [local go_sem] Oper.semAt_some

set_option maxRecDepth 100000 in
set_option maxHeartbeats 1000000 in
theorem makes_out (w : World) (ao bo : Option Addr) (len cap len2 cap2 : Nat) (b k : Int) (hl : len ≤ 4611686018427387903) (hl2 : len2 ≤ 4611686018427387903) (h : 200 < len + len2) : Calls Try.prog 4 #[.slice ao len cap, .slice bo len2 cap2, .agg #[.int .i64 b, .int .i64 k]] w fun e w' => e = .returned (.bool true) ∧ Kept (fun _ => False) w w' := by
  go_enter Try.func4, Try.ntmps4
  go_wp2_with (first
    | ((with_reducible refine aw_box (t := 37) (v := .agg #[.int .i64 b, .int .i64 k]) rfl ?_); intro w1 hb1 hk1 hz1; have Hk1 := hide hk1; clear hb1 hk1 hz1)
    | fail)
  refine (first_law w1).mono ?_
  rintro e w2 ⟨rfl, hk2⟩
  have Hk2 := hide (Hk1.out.trans hk2 (fun _ _ h => h))
  clear hk2
  go_wp2
  go_ret
  exact ⟨rfl, Hk2.out⟩

set_option maxRecDepth 100000 in
set_option maxHeartbeats 2000000 in
theorem makes_in (w : World) (v1 v2 : Value) (xs ys : List I64) (b k : Int) (hb1 : -9223372036854775808 ≤ b ∧ b ≤ 9223372036854775807) (hk1 : -9223372036854775808 ≤ k ∧ k ≤ 9223372036854775807) (hv1 : SrcV w v1 (xs.map DI)) (hv2 : SrcV w v2 (ys.map DI)) (hl : xs.length + ys.length ≤ 200) : Calls Try.prog 4 #[v1, v2, .agg #[.int .i64 b, .int .i64 k]] w fun e w' => e = .returned (.bool true) ∧ Kept (fun _ => False) w w' := by
  have HV := hide hv1
  have HU := hide hv2
  obtain ⟨ao, cap, rfl, hcap, hsrc, hnil⟩ := hv1
  obtain ⟨bo, cap2, rfl, hcap2, hsrc2, hnil2⟩ := hv2
  obtain ⟨i3, hi3, hz3, hs3, hb3⟩ := info_parts Try.info3
  obtain ⟨i27, hi27, hz27, hs27, hb27⟩ := info_parts Try.info27
  have Hi3 := hide hi3
  have Hz3 := hide hz3
  have Hs3 := hide hs3
  have Hb3 := hide hb3
  have Hi27 := hide hi27
  have Hz27 := hide hz27
  have Hs27 := hide hs27
  have HSl : Hid (0 < (xs.map DI).length → ∃ g off, ao = some ⟨g, off, none⟩ ∧ Cells w g off (xs.map DI)) := hide hsrc
  obtain ⟨len, hlen⟩ : ∃ len, len = (xs.map DI).length := ⟨_, rfl⟩
  obtain ⟨len2, hlen2⟩ : ∃ len2, len2 = (ys.map DI).length := ⟨_, rfl⟩
  rw [← hlen] at HV HSl ⊢
  rw [← hlen2] at HU ⊢
  have hll : len = xs.length := by rw [hlen, List.length_map]
  have hll2 : len2 = ys.length := by rw [hlen2, List.length_map]
  have Hll := hide hll
  have Hll2 := hide hll2
  have hl2 : len + len2 ≤ 200 := by omega
  have hxl : Hid (xs.length ≤ 10000) := hide (by omega)
  have hyl : Hid (ys.length ≤ 10000) := hide (by omega)
  have hxm : Hid (xs.length ≤ 1000000) := hide (by omega)
  have hym : Hid (ys.length ≤ 1000000) := hide (by omega)
  clear hcap hsrc hnil hcap2 hsrc2 hnil2 hi3 hz3 hs3 hb3 hi27 hz27 hs27 hb27 hlen hlen2 hll hll2 hl
  go_enter Try.func4, Try.ntmps4
  go_wp2_with (first
    | ((with_reducible refine aw_box (t := 37) (v := .agg #[.int .i64 b, .int .i64 k]) rfl ?_); intro w1 hb1 hk1 hz1; have HB1 := hide hb1; have Hk1 := hide hk1; clear hb1 hk1 hz1)
    | fail)
  refine (first_law w1).mono ?_
  rintro e w2 ⟨rfl, hk2⟩
  have HB2 : Hid (Blk w2 w.heap.size [.int .i64 b, .int .i64 k] 37) := hide (hk2.blk HB1.out (fun h => h))
  have Hk2 := hide (Hk1.out.trans hk2 (fun _ _ h => h))
  clear hk2 HB1 Hk1
  go_wp2
  refine hold_frame (p := fun fr => Code.wp Try.prog _ _ fr _) ?_
  intro fr hfr
  have e5 : fr.eval (.tmp 5) = .pointer (some ⟨w.heap.size, 0, none⟩) := by rw [hfr.out]; rfl
  have hts : fr.tmps.size = 195 := by rw [hfr.out]; rfl
  refine region_S 99 (fun U => Blk U w.heap.size [.int .i64 b, .int .i64 k] 37) Try.mixed ?_
  intro w0 hkw hheap
  have hS0 := hkw.blk HB2.out (fun h => h)
  refine tkS 0 32 (v := .pointer (some ⟨w.heap.size, 0, none⟩)) hS0 rfl rfl (by kernel_rfl) (by kernel_rfl) (by kernel_rfl) (by kernel_rfl) (wanted_none rfl) (fun _ _ _ h => h) (fun U hU => r_idx37_0 (by simp [eval_put_ne, eval_put_eq, size_put, hts, e5]) rfl) ?_
  refine tkS 1 33 (v := .int .i64 b) hS0 rfl rfl (by kernel_rfl) (by kernel_rfl) (by kernel_rfl) (by kernel_rfl) (wanted_none rfl) (fun _ _ _ h => h) (fun U hU => r_ld3 (by simp [eval_put_ne, eval_put_eq, size_put, hts]) (hU.cell 0)) ?_
  refine tkS 2 34 (v := .pointer (some ⟨w.heap.size, 1, none⟩)) hS0 rfl rfl (by kernel_rfl) (by kernel_rfl) (by kernel_rfl) (by kernel_rfl) (wanted_none rfl) (fun _ _ _ h => h) (fun U hU => r_idx37_1 (by simp [eval_put_ne, eval_put_eq, size_put, hts, e5]) rfl) ?_
  refine tkS 3 35 (v := .int .i64 k) hS0 rfl rfl (by kernel_rfl) (by kernel_rfl) (by kernel_rfl) (by kernel_rfl) (wanted_none rfl) (fun _ _ _ h => h) (fun U hU => r_ld3 (by simp [eval_put_ne, eval_put_eq, size_put, hts]) (hU.cell 1)) ?_
  have hbA : Blk (w0.alloc (.cells (Value.cells (.int .i64 0)) 3)) w0.heap.size [.int .i64 0] 3 := Blk.newA w0 (Value.cells (.int .i64 0)) 3
  have hkA : Kept (fun _ => False) w0 (w0.alloc (.cells (Value.cells (.int .i64 0)) 3)) := Kept.alloc _ _ _
  have hSA := hkA.blk hS0 (fun h => h)
  refine oneVS 4 7 (v := .pointer (some ⟨w0.heap.size, 0, none⟩)) (by kernel_rfl) rfl rfl (wanted_none rfl) (run_alloc_agg Hi3.out Hz3.out) hSA ?_
  generalize w0.alloc (.cells (Value.cells (.int .i64 0)) 3) = wA at hbA hkA hSA ⊢
  have hbB := hbA.setRow [.int .i64 b]
  have hkB : Kept (fun k => k = w0.heap.size) wA (wA.setRow w0.heap.size [Value.int .i64 b].toArray) := Kept.setRow wA _ _ rfl
  have hneB : ¬ w.heap.size = w0.heap.size := by have := hS0.lt; omega
  have hSB := hkB.blk hSA hneB
  refine oneKS 5 (w' := wA.setRow w0.heap.size [Value.int .i64 b].toArray) (by kernel_rfl) rfl rfl (wanted_none rfl) (run_store_one (b := w0.heap.size) (off := 0) (v := .int .i64 b) Hi3.out Hs3.out (by simp [eval_put_ne, eval_put_eq, size_put, hts]) (by simp [eval_put_ne, eval_put_eq, size_put, hts]) rfl rfl hbA (by simp [Value.cells])) hSB ?_
  generalize wA.setRow w0.heap.size [Value.int .i64 b].toArray = wB at hbB hkB hSB ⊢
  refine tkS 6 8 (v := .int .i64 k) hSB rfl rfl (by kernel_rfl) (by kernel_rfl) (by kernel_rfl) (by kernel_rfl) (wanted_none rfl) (fun _ _ _ h => h) (fun U hU => r_assign (by simp [eval_put_ne, eval_put_eq, size_put, hts])) ?_
  refine doneS (by kernel_rfl) ?_
  rw [hfr.out]
  clear hfr e5 hts
  simp only [put_lit, put_none, List.set_cons_succ, List.set_cons_zero]
  obtain ⟨bb, hbb⟩ : ∃ bb, bb = w0.heap.size := ⟨_, rfl⟩
  have HkB : Hid (Kept (fun _ => False) w wB) := hide (((Hk2.out.trans hkw (fun _ _ h => h)).trans hkA (fun _ _ h => h)).trans hkB (fun j hj h => by have := Hk2.out.size; have := hkw.size; omega))
  have HbB : Hid (Blk wB bb [.int .i64 b] 3) := hide (by rw [hbb]; exact hbB)
  have hlbb : w.heap.size ≤ bb := by have := Hk2.out.size; have := hkw.size; omega
  rw [← hbb]
  clear hbb hbA hkA hSA hbB hkB hSB hneB hS0 hkw hheap Hk2 HB2
  go_wp2_with (first
    | ((with_reducible refine aw_alloc (t := 3) Hi3.out Hz3.out ?_); intro w3 hb3 hk3 hz3; have Hb3' := hide hb3; have Hk3 := hide hk3; clear hb3 hk3 hz3)
    | (with_reducible refine stop_store 3 ?_))
  refine hide ?_
  refine aw_store1 (v := .int .i64 0) Hi3.out Hs3.out rfl rfl rfl rfl Hb3'.out (by simp [Value.cells]) ?_
  intro w4 hb4 hk4 hz4
  obtain ⟨bc, hbc⟩ : ∃ bc, bc = wB.heap.size := ⟨_, rfl⟩
  have M4 : Hid (MS w w4 bb bc b 0) := hide ⟨(HkB.out.trans Hk3.out (fun _ _ h => h)).trans hk4 (fun j hj h => by have := HkB.out.size; omega), hk4.blk (Hk3.out.blk HbB.out (fun h => h)) (by have := HbB.out.lt; omega), by rw [hbc]; exact hb4, by have := HbB.out.lt; omega, hlbb, by have := HkB.out.size; omega⟩
  rw [← hbc]
  clear hb4 hk4 hz4 hbc Hb3' Hk3 HkB HbB
  simp only [put_lit, put_none, List.set_cons_succ, List.set_cons_zero]
  go_wp2_with fail
  refine (asked_at w4 _ bc rfl).mono ?_
  rintro e w5 ⟨bl5, bp5, rfl, h1, h2, h3, h4, h5⟩
  have HA5 := hide (M4.out.asked HV.out hxm.out h1 h2 h3 h4 h5)
  have M5 := hide (M4.out.kept h3)
  clear h1 h2 h3 h4 h5 M4
  go_wp2_with fail
  refine (firstM HA5.out M5.out.c k hk1.2 hxm.out).mono ?_
  rintro e w6 ⟨s6, rfl, hL6, hk6⟩
  have HL6 := hide hL6
  have M6 := hide (M5.out.kept hk6)
  clear hL6 hk6 M5 HA5
  go_wp2_with fail
  refine HL6.out.mono ?_
  rintro e w7 ⟨f7, rfl, h1, h2, h3, h4⟩
  have M7 := hide (M6.out.cnt h3 h4)
  have HF7 := hide (ownsRow_src h1)
  obtain ⟨fa7, fc7, rfl⟩ := ownsRow_slice h1
  obtain ⟨nf, hnf⟩ : ∃ nf, nf = (xs.take k.toNat).length := ⟨_, rfl⟩
  rw [← hnf] at M7 HF7 ⊢
  have Hnf := hide hnf
  clear h1 h2 h3 h4 M6 HL6 hnf
  go_wp2_with fail
  refine (rfirst_at w7 _ xs k (HV.out.kept M7.out.k (fun _ _ h => h)) hxm.out).mono ?_
  rintro e w8 ⟨o8, rfl, hg8⟩
  have M8 := hide (M7.out.kept hg8.2.2)
  have HF8 := hide (HF7.out.kept hg8.2.2 (fun _ _ h => h))
  have HO8 := hide (ownsRow_src hg8.1)
  obtain ⟨oa8, oc8, rfl⟩ := ownsRow_slice hg8.1
  rw [← Hnf.out] at HO8 ⊢
  have htl8 : (xs.take k.toNat).length ≤ 1000000 := by have := hxm.out; rw [List.length_take]; omega
  have HSame8 := hide (same_at w8 _ _ (xs.take k.toNat) HF8.out HO8.out htl8)
  clear hg8 M7 HF7 htl8
  go_wp2_with fail
  refine HSame8.out.mono ?_
  rintro e w9 ⟨rfl, hk9⟩
  have M9 := hide (M8.out.kept hk9)
  have c9 : w9.cell? ⟨bc, 0, none⟩ = some (.int .i64 (nf : Nat)) := M9.out.c.cell 0
  clear hk9 M8 HF8 HO8 HSame8
  go_wp2_with (with_reducible refine stop_store 3 ?_)
  refine hide ?_
  refine aw_store1 (v := .int .i64 0) Hi3.out Hs3.out rfl rfl rfl rfl M9.out.c (by simp) ?_
  intro w10 hb10 hk10 hz10
  have M10 : Hid (MS w w10 bb bc b 0) := hide (M9.out.cnt hk10 hb10)
  clear hb10 hk10 hz10 M9 c9
  simp only [put_lit, put_none, List.set_cons_succ, List.set_cons_zero]
  go_wp2_with fail
  refine (asked_at w10 _ bc rfl).mono ?_
  rintro e w11 ⟨bl11, bp11, rfl, h1, h2, h3, h4, h5⟩
  have HA11 := hide (M10.out.asked HV.out hxm.out h1 h2 h3 h4 h5)
  have M11 := hide (M10.out.kept h3)
  clear h1 h2 h3 h4 h5 M10
  go_wp2_with fail
  refine (untilM HA11.out M11.out.b M11.out.ne M11.out.c.lt hxm.out).mono ?_
  rintro e w12 ⟨s12, rfl, hL12, hk12⟩
  have HL12 := hide hL12
  have M12 := hide (M11.out.kept hk12)
  clear hL12 hk12 M11 HA11
  go_wp2_with fail
  refine HL12.out.mono ?_
  rintro e w13 ⟨f13, rfl, h1, h2, h3, h4⟩
  have M13 := hide (M12.out.cnt h3 h4)
  have HF13 := hide (ownsRow_src h1)
  obtain ⟨fa13, fc13, rfl⟩ := ownsRow_slice h1
  obtain ⟨nw, hnw⟩ : ∃ nw, nw = (xs.takeWhile (fun x => !pB b x)).length := ⟨_, rfl⟩
  obtain ⟨nu, hnu⟩ : ∃ nu, nu = cntU b xs := ⟨_, rfl⟩
  have Hnw := hide hnw
  have Hnu := hide hnu
  rw [← hnw] at HF13 ⊢
  rw [← hnu] at M13
  clear hnw hnu
  have c13 : w13.cell? ⟨bb, 0, none⟩ = some (.int .i64 b) := M13.out.b.cell 0
  clear h1 h2 h3 h4 M12 HL12
  go_wp2_with fail
  refine (runtil_at w13 _ xs b (HV.out.kept M13.out.k (fun _ _ h => h)) hxm.out).mono ?_
  rintro e w14 ⟨o14, asks, zs, rfl, hun, hg14⟩
  obtain ⟨rfl, rfl⟩ := untl_is hun
  have M14 := hide (M13.out.kept hg14.2.2)
  have HF14 := hide (HF13.out.kept hg14.2.2 (fun _ _ h => h))
  have HO14 := hide (ownsRow_src hg14.1)
  obtain ⟨oa14, oc14, rfl⟩ := ownsRow_slice hg14.1
  rw [← Hnw.out] at HO14 ⊢
  rw [← Hnu.out]
  have hlw : (xs.takeWhile (fun x => !pB b x)).length ≤ xs.length := (List.takeWhile_prefix _).length_le
  have HSame14 := hide (same_at w14 _ _ (xs.takeWhile (fun x => !pB b x)) HF14.out HO14.out (Nat.le_trans hlw hxm.out))
  clear hg14 hun M13 HF13 c13
  go_wp2_with fail
  refine HSame14.out.mono ?_
  rintro e w15 ⟨rfl, hk15⟩
  have M15 := hide (M14.out.kept hk15)
  rw [← Hnw.out, ← Hll.out] at hlw
  have c15 : w15.cell? ⟨bc, 0, none⟩ = some (.int .i64 (nu : Nat)) := M15.out.c.cell 0
  clear hk15 M14 HF14 HO14 HSame14
  go_wp2_with (with_reducible refine stop_store 3 ?_)
  refine hide ?_
  refine aw_store1 (v := .int .i64 0) Hi3.out Hs3.out rfl rfl rfl rfl M15.out.c (by simp) ?_
  intro w16 hb16 hk16 hz16
  have M16 : Hid (MS w w16 bb bc b 0) := hide (M15.out.cnt hk16 hb16)
  clear hb16 hk16 hz16 M15 c15
  simp only [put_lit, put_none, List.set_cons_succ, List.set_cons_zero]
  go_wp2_with fail
  refine (asked_at w16 _ bc rfl).mono ?_
  rintro e w17 ⟨bl17, bp17, rfl, h1, h2, h3, h4, h5⟩
  have HA17 := hide (M16.out.asked HV.out hxm.out h1 h2 h3 h4 h5)
  have M17 := hide (M16.out.kept h3)
  clear h1 h2 h3 h4 h5 M16
  go_wp2_with fail
  refine (findM HA17.out M17.out.b M17.out.ne).mono ?_
  rintro e w18 ⟨u, f, rfl, hk18, hb18, hfound⟩
  have M18 := hide (M17.out.cnt hk18 hb18)
  rw [← Hnu.out] at M18
  have c18 : w18.cell? ⟨bc, 0, none⟩ = some (.int .i64 (nu : Nat)) := M18.out.c.cell 0
  clear hk18 hb18 M17 HA17
  rcases hfound with ⟨rfl, rfl, heq⟩ | ⟨rfl, hlt, hu⟩
  · have hnl : nw = len := by rw [Hnw.out, Hll.out, heq]
    clear heq
    go_wp2_with fail
    refine (of_M w18 _ xs (HV.out.kept M18.out.k (fun _ _ h => h)) hxm.out).mono ?_
    rintro e w19 ⟨d19, rfl, ⟨X19, hs19⟩, hk19⟩
    have HS19 := hide hs19
    have M19 := hide (M18.out.kept hk19)
    clear hs19 hk19 M18 c18
    go_wp2_with fail
    refine (runs_M HS19.out k hk1.2 hxl.out).mono ?_
    rintro e w20 ⟨s20, rfl, hL20, hk20⟩
    have HL20 := hide hL20
    have M20 := hide (M19.out.kept hk20)
    clear hL20 hk20 M19 HS19
    go_wp2_with fail
    refine HL20.out.mono ?_
    rintro e w21 ⟨kv21, vs21, G21, rfl, h1, h2, h3⟩
    have M21 := hide (M20.out.kept h3)
    obtain ⟨nL, hnL⟩ : ∃ nL, nL = (runsM k xs).length := ⟨_, rfl⟩
    have hnL2 : nL ≤ 1000000 := by
      have := runsOf_cnt k.toNat xs
      have := hxl.out
      rw [hnL]
      unfold runsM
      split
      · omega
      · simp
    rw [← hnL] at h1
    have HnL := hide hnL
    obtain ⟨a21, c21, rfl, hv21, hc21⟩ := own_cells h1
    have HC21 := hide hc21
    have HV21 := hide hv21
    have HE21 := hide h2
    clear h1 h2 h3 M20 HL20 hnL hc21 hv21
    go_wp2_with fail
    refine (rruns_M w21 _ xs k hk1.2 (HV.out.kept M21.out.k (fun _ _ h => h)) hxl.out).mono ?_
    rintro e w22 ⟨kv22, vs22, G22, rfl, h1, h2, h3⟩
    have M22 := hide (M21.out.kept h3)
    rw [← HnL.out] at h1
    obtain ⟨a22, c22, rfl, hv22, hc22⟩ := own_cells h1
    have HC22 := hide hc22
    have HV22 := hide hv22
    have HE22 := hide h2
    have Hk22 := hide h3
    clear h1 h2 h3 M21 hc22 hv22
    go_wp2
    go_loopw [129] (fun i wr => ∃ j : Nat, i = .int .i64 j ∧ j ≤ nL ∧ Hid (Kept (fun _ => False) w22 wr)) (fun i _ => nL - (intOf i).toNat)
    case atStart => exact ⟨0, rfl, Nat.zero_le _, hide (Kept.refl _ _)⟩
    case round =>
      obtain ⟨j, rfl, hj, hK⟩ := hrel
      by_cases hlt : j < nL
      · obtain ⟨g1, o1, rfl, hc1⟩ := HC21.out j hlt
        obtain ⟨g2, o2, rfl, hc2⟩ := HC22.out j hlt
        have hj1 : j < vs21.length := by rw [HV21.out]; exact hlt
        have hj2 : j < vs22.length := by rw [HV22.out]; exact hlt
        have hjL : j < (runsM k xs).length := by rw [← HnL.out]; exact hlt
        obtain ⟨Ga, hEa, _⟩ := HE21.out.2 j _ _ (List.getElem?_eq_getElem hjL) (List.getElem?_eq_getElem hj1)
        obtain ⟨Gb, hEb, _⟩ := HE22.out.2 j _ _ (List.getElem?_eq_getElem hjL) (List.getElem?_eq_getElem hj2)
        obtain ⟨a1, ha1⟩ : ∃ a1, a1 = vs21[j] := ⟨_, rfl⟩
        obtain ⟨a2, ha2⟩ : ∃ a2, a2 = vs22[j] := ⟨_, rfl⟩
        obtain ⟨zs, hzs⟩ : ∃ zs, zs = (runsM k xs)[j] := ⟨_, rfl⟩
        rw [← ha1, ← hzs] at hEa
        rw [← ha2, ← hzs] at hEb
        have hzl : zs.length ≤ 1000000 := by
          have h1 := List.getElem_mem hjL
          rw [← hzs] at h1
          have h2 : zs.length ≤ (runsM k xs).flatten.length := (List.sublist_flatten_of_mem h1).length_le
          have h3 : (runsM k xs).flatten.length ≤ xs.length := by
            unfold runsM
            split
            · rw [runsOf_flat]; exact Nat.le_refl _
            · simp
          have := hxm.out
          omega
        have Hc1 : Hid (∀ W', Kept (fun _ => False) w22 W' → W'.cell? ⟨g1, o1 + j, none⟩ = some a1) := hide (fun W' hk => by rw [hc1 W' (Hk22.out.trans hk (fun _ _ h => h)), ha1]; exact List.getElem?_eq_getElem hj1)
        have Hc2 : Hid (∀ W', Kept (fun _ => False) w22 W' → W'.cell? ⟨g2, o2 + j, none⟩ = some a2) := hide (fun W' hk => by rw [hc2 W' hk, ha2]; exact List.getElem?_eq_getElem hj2)
        have Hsame : Hid (∀ W', Kept (fun _ => False) w22 W' → Calls Try.prog 15 #[a1, a2] W' fun e W'' => e = .returned (.bool true) ∧ Kept (fun _ => False) W' W'') := hide (fun W' hk => same_at W' a1 a2 zs ((ownsRow_src hEa.1).kept (Hk22.out.trans hk (fun _ _ h => h)) (fun _ _ h => h)) ((ownsRow_src hEb.1).kept hk (fun _ _ h => h)) hzl)
        clear hc1 hc2 hj1 hj2 hjL hEa hEb ha1 ha2 hzs hzl
        go_wp2
        refine hold_frame (p := fun fr => Code.wp Try.prog _ _ fr _) ?_
        intro fr hfr
        have e18 : fr.eval (.tmp 18) = .slice (some ⟨g1, o1, none⟩) nL c21 := by rw [hfr.out]; rfl
        have e19 : fr.eval (.tmp 19) = .slice (some ⟨g2, o2, none⟩) nL c22 := by rw [hfr.out]; rfl
        have e20 : fr.eval (.tmp 20) = .int .i64 (j : Nat) := by rw [hfr.out]; rfl
        have hts : fr.tmps.size = 195 := by rw [hfr.out]; rfl
        refine region_S 99 (fun U => U.cell? ⟨g1, o1 + j, none⟩ = some a1 ∧ U.cell? ⟨g2, o2 + j, none⟩ = some a2) Try.mixed ?_
        intro w0 hkw hheap
        have hS0 := (⟨Hc1.out w0 (hK.out.trans hkw (fun _ _ h => h)), Hc2.out w0 (hK.out.trans hkw (fun _ _ h => h))⟩ : w0.cell? ⟨g1, o1 + j, none⟩ = some a1 ∧ w0.cell? ⟨g2, o2 + j, none⟩ = some a2)
        refine tkS 0 132 (v := .slice (some ⟨g1, o1, none⟩) nL c21) hS0 rfl rfl (by kernel_rfl) (by kernel_rfl) (by kernel_rfl) (by kernel_rfl) (wanted_none rfl) (fun _ _ _ h => h) (fun U hU => r_move (by simp [eval_put_ne, eval_put_eq, size_put, hts, e18])) ?_
        refine tkS 1 133 (v := .int .i64 (j : Nat)) hS0 rfl rfl (by kernel_rfl) (by kernel_rfl) (by kernel_rfl) (by kernel_rfl) (wanted_none rfl) (fun _ _ _ h => h) (fun U hU => r_move (by simp [eval_put_ne, eval_put_eq, size_put, hts, e20])) ?_
        refine tkS 2 134 (v := .pointer (some ⟨g1, o1 + j, none⟩)) hS0 rfl rfl (by kernel_rfl) (by kernel_rfl) (by kernel_rfl) (by kernel_rfl) (wanted_none rfl) (fun _ _ _ h => h) (fun U hU => r_idx46 (b := g1) (off := o1) (len := nL) (cap := c21) (k := .i64) j (by simp [eval_put_ne, eval_put_eq, size_put, hts]) (by simp [eval_put_ne, eval_put_eq, size_put, hts]) hlt) ?_
        refine tkS 3 135 (v := a1) hS0 rfl rfl (by kernel_rfl) (by kernel_rfl) (by kernel_rfl) (by kernel_rfl) (wanted_none rfl) (fun _ _ _ h => h) (fun U hU => r_ld22 (by simp [eval_put_ne, eval_put_eq, size_put, hts]) hU.1) ?_
        refine tkS 4 136 (v := .slice (some ⟨g2, o2, none⟩) nL c22) hS0 rfl rfl (by kernel_rfl) (by kernel_rfl) (by kernel_rfl) (by kernel_rfl) (wanted_none rfl) (fun _ _ _ h => h) (fun U hU => r_move (by simp [eval_put_ne, eval_put_eq, size_put, hts, e19])) ?_
        refine tkS 5 137 (v := .int .i64 (j : Nat)) hS0 rfl rfl (by kernel_rfl) (by kernel_rfl) (by kernel_rfl) (by kernel_rfl) (wanted_none rfl) (fun _ _ _ h => h) (fun U hU => r_move (by simp [eval_put_ne, eval_put_eq, size_put, hts, e20])) ?_
        refine tkS 6 138 (v := .pointer (some ⟨g2, o2 + j, none⟩)) hS0 rfl rfl (by kernel_rfl) (by kernel_rfl) (by kernel_rfl) (by kernel_rfl) (wanted_none rfl) (fun _ _ _ h => h) (fun U hU => r_idx46 (b := g2) (off := o2) (len := nL) (cap := c22) (k := .i64) j (by simp [eval_put_ne, eval_put_eq, size_put, hts]) (by simp [eval_put_ne, eval_put_eq, size_put, hts]) hlt) ?_
        refine tkS 7 139 (v := a2) hS0 rfl rfl (by kernel_rfl) (by kernel_rfl) (by kernel_rfl) (by kernel_rfl) (wanted_none rfl) (fun _ _ _ h => h) (fun U hU => r_ld22 (by simp [eval_put_ne, eval_put_eq, size_put, hts]) hU.2) ?_
        refine oneCS 8 140 (by kernel_rfl) rfl rfl (wanted_none rfl) (r_call2 Try.func15 (by kernel_rfl) rfl rfl (by simp [eval_put_ne, eval_put_eq, size_put, hts]) (by simp [eval_put_ne, eval_put_eq, size_put, hts])) (Hsame.out w0 (hK.out.trans hkw (fun _ _ h => h))) ?_
        rintro e y9 ⟨rfl, hk9⟩
        have hK9 := (hK.out.trans hkw (fun _ _ h => h)).trans hk9 (fun _ _ h => h)
        have hS9 : y9.cell? ⟨g1, o1 + j, none⟩ = some a1 ∧ y9.cell? ⟨g2, o2 + j, none⟩ = some a2 := ⟨Hc1.out y9 hK9, Hc2.out y9 hK9⟩
        refine ⟨_, rfl, hS9, ?_⟩
        refine tkS 9 141 (v := .bool false) hS9 rfl rfl (by kernel_rfl) (by kernel_rfl) (by kernel_rfl) (by kernel_rfl) (wanted_none rfl) (fun _ _ _ h => h) (fun U hU => r_not (b := true) (by simp [eval_put_ne, eval_put_eq, size_put, hts])) ?_
        refine doneS (by kernel_rfl) ?_
        rw [hfr.out]
        clear hfr e18 e19 e20 hts
        simp only [put_lit, put_none, List.set_cons_succ, List.set_cons_zero]
        have HK9 := hide hK9
        clear hK9 hk9 hS9 hS0 hkw hheap
        go_wp2
        go_roundw
        case rel => exact ⟨j + 1, by simp, by omega, HK9⟩
        case measure => simp [intOf]; omega
      · obtain rfl : nL = j := by omega
        have M23 := hide (M22.out.kept hK.out)
        clear hK M22 HC21 HC22 HE21 HE22 Hk22 HV21 HV22 hlt hj
        obtain ⟨w23, hw23⟩ : ∃ w23, w23 = wr := ⟨_, rfl⟩
        rw [← hw23] at M23 ⊢
        clear hw23
        go_wp2_with fail
        refine (of_M w23 _ xs (HV.out.kept M23.out.k (fun _ _ h => h)) hxm.out).mono ?_
        rintro e w24 ⟨d24, rfl, ⟨X24, hs24⟩, hk24⟩
        have HS24 := hide hs24
        have M24 := hide (M23.out.kept hk24)
        clear hs24 hk24 M23
        go_wp2_with fail
        refine (map_M HS24.out).mono ?_
        rintro e w25 ⟨s25, rfl, ⟨X25, P25, hs25⟩, hk25⟩
        have HS25 := hide hs25
        have M25 := hide (M24.out.kept hk25)
        clear hs25 hk25 M24 HS24
        go_wp2_with fail
        refine (list_M HS25.out (by rw [List.length_map]; exact hxm.out)).mono ?_
        rintro e w26 ⟨kv26, rfl, h1, h3⟩
        have M26 := hide (M25.out.kept h3)
        rw [List.length_map, ← Hll.out] at h1
        obtain ⟨a26, c26, rfl, hv26, hc26⟩ := own_cells h1
        have HC26 := hide hc26
        clear h1 h3 M25 HS25 hc26 hv26
        go_wp2
        go_loopw [149] (fun i wr => ∃ j : Nat, i = .int .i64 j ∧ j ≤ len ∧ Hid (Kept (fun _ => False) w26 wr)) (fun i _ => len - (intOf i).toNat)
        case atStart => exact ⟨0, rfl, Nat.zero_le _, hide (Kept.refl _ _)⟩
        case round =>
          obtain ⟨j, rfl, hj, hK⟩ := hrel
          by_cases hlt : j < len
          · obtain ⟨g1, o1, rfl, hc1⟩ := HC26.out j hlt
            obtain ⟨gl, ol, hal, hcl⟩ := HSl.out (by omega)
            have hjx : j < xs.length := by rw [← Hll.out]; exact hlt
            have c1 : wr.cell? ⟨g1, o1 + j, none⟩ = some (.int .i64 (bits .xor .i64 xs[j].1 1)) := by
              rw [hc1 wr hK.out]
              simp [hjx, fX]
            have c2 : wr.cell? ⟨gl, ol + j, none⟩ = some (.int .i64 xs[j].1) := ((M26.out.kept hK.out).k.cells hcl (fun h => h)) j _ (by simp [hjx])
            obtain ⟨x, hx⟩ : ∃ x, x = xs[j].1 := ⟨_, rfl⟩
            rw [← hx] at c1 c2
            clear hx hcl hc1 hjx
            subst hal
            go_wp2
            go_quiet (fail)
            go_wp2
            go_roundw
            case rel => exact ⟨j + 1, by simp, by omega, hide (hK.out.trans ⟨rfl, rfl, rfl, Nat.le_refl _, fun _ _ _ => rfl⟩ (fun _ _ h => h))⟩
            case measure => simp [intOf]; omega
          · obtain rfl : len = j := by omega
            have M27 := hide (M26.out.kept hK.out)
            clear hK M26 HC26 hlt hj
            obtain ⟨w27, hw27⟩ : ∃ w27, w27 = wr := ⟨_, rfl⟩
            rw [← hw27] at M27 ⊢
            clear hw27
            go_wp2_with fail
            refine (of_M w27 _ xs (HV.out.kept M27.out.k (fun _ _ h => h)) hxm.out).mono ?_
            rintro e w28 ⟨d28, rfl, ⟨X28, hs28⟩, hk28⟩
            have HS28 := hide hs28
            have M28 := hide (M27.out.kept hk28)
            clear hs28 hk28 M27
            go_wp2_with fail
            refine (of_M w28 _ ys (HU.out.kept M28.out.k (fun _ _ h => h)) hym.out).mono ?_
            rintro e w29 ⟨d29, rfl, ⟨X29, hs29⟩, hk29⟩
            have HS29 := hide hs29
            have HT29 := hide (HS28.out.kept hk29 (fun _ h => h.elim))
            have M29 := hide (M28.out.kept hk29)
            clear hs29 hk29 M28 HS28
            go_wp2_with (with_reducible refine stop_bs 68 ?_)
            refine hide ?_
            refine wpList_run rfl (run_bs1 Try.underlying68 Hi27.out Hz27.out Hs27.out [(Value.func (.func 43) #[] #[.pointer (some ⟨d28, 0, none⟩)]), Value.nilFunc, (Value.func (.func 43) #[] #[.pointer (some ⟨d29, 0, none⟩)])] rfl (by simp) (by simp [Value.cells]) rfl) ?_
            have hbA := Blk.new w29 [(Value.func (.func 43) #[] #[.pointer (some ⟨d28, 0, none⟩)]), Value.nilFunc, (Value.func (.func 43) #[] #[.pointer (some ⟨d29, 0, none⟩)])] 27
            have hk30 : Kept (fun _ => False) w29 (w29.alloc (.cells [(Value.func (.func 43) #[] #[.pointer (some ⟨d28, 0, none⟩)]), Value.nilFunc, (Value.func (.func 43) #[] #[.pointer (some ⟨d29, 0, none⟩)])].toArray 27)) := Kept.alloc _ _ _
            generalize w29.alloc (.cells [(Value.func (.func 43) #[] #[.pointer (some ⟨d28, 0, none⟩)]), Value.nilFunc, (Value.func (.func 43) #[] #[.pointer (some ⟨d29, 0, none⟩)])].toArray 27) = w30 at hbA hk30
            have HA30 : Hid (SrcV w30 (.slice (some ⟨w29.heap.size, 0, none⟩) 3 3) [(Value.func (.func 43) #[] #[.pointer (some ⟨d28, 0, none⟩)]), Value.nilFunc, (Value.func (.func 43) #[] #[.pointer (some ⟨d29, 0, none⟩)])]) := hide ⟨_, 3, rfl, by simp, fun _ => ⟨_, 0, rfl, by have := hbA.cells 0 3; simpa using this⟩, fun h => by cases h⟩
            have M30 := hide (M29.out.kept hk30)
            have HS1 := hide (HT29.out.kept hk30 (fun _ h => h.elim))
            have HS2 := hide (HS29.out.kept hk30 (fun _ h => h.elim))
            clear hbA hk30 M29 HS29 HT29
            simp only [put_lit, List.set_cons_succ, List.set_cons_zero]
            go_wp2_with fail
            refine (join_M HS1.out HS2.out ⟨_, _, rfl⟩ ⟨_, _, rfl⟩ HA30.out).mono ?_
            rintro e w31 ⟨s31, rfl, ⟨X31, P31, hs31⟩, hk31⟩
            have HS31 := hide hs31
            have M31 := hide (M30.out.kept hk31)
            clear hs31 hk31 M30 HS1 HS2 HA30
            go_wp2_with fail
            refine (list_M HS31.out (by rw [List.length_append]; have := hxl.out; have := hyl.out; omega)).mono ?_
            rintro e w32 ⟨kv32, rfl, h1, h3⟩
            have M32 := hide (M31.out.kept h3)
            obtain ⟨nb, hnb⟩ : ∃ nb, nb = (xs ++ ys).length := ⟨_, rfl⟩
            rw [← hnb] at h1
            have hs32 := ownsRow_src h1
            obtain ⟨a32, c32, rfl⟩ := ownsRow_slice h1
            have HB32 := hide hs32
            clear h1 h3 hs32 M31 HS31 hnb
            go_wp2
            refine hold_frame (p := fun fr => Code.wp Try.prog _ _ fr _) ?_
            intro fr hfr
            have e0 : fr.eval (.tmp 0) = .slice ao len cap := by rw [hfr.out]; rfl
            have e1 : fr.eval (.tmp 1) = .slice bo len2 cap2 := by rw [hfr.out]; rfl
            have e7 : fr.eval (.tmp 7) = .pointer (some ⟨bb, 0, none⟩) := by rw [hfr.out]; rfl
            have e9 : fr.eval (.tmp 9) = .func (.func 16) #[] #[.pointer (some ⟨bb, 0, none⟩)] := by rw [hfr.out]; rfl
            have e21 : fr.eval (.tmp 21) = .slice a26 len c26 := by rw [hfr.out]; rfl
            have e23 : fr.eval (.tmp 23) = .slice a32 nb c32 := by rw [hfr.out]; rfl
            have hts : fr.tmps.size = 195 := by rw [hfr.out]; rfl
            refine region_S 99 (fun U => Blk U bb [.int .i64 b] 3) Try.mixed ?_
            intro w0 hkw hheap
            have hS0 := hkw.blk M32.out.b (fun h => h)
            refine tkS 0 170 (v := .slice a26 len c26) hS0 rfl rfl (by kernel_rfl) (by kernel_rfl) (by kernel_rfl) (by kernel_rfl) (wanted_none rfl) (fun _ _ _ h => h) (fun U hU => r_move (by simp [eval_put_ne, eval_put_eq, size_put, hts, e21])) ?_
            refine tkS 1 171 (v := .int .i64 (len : Nat)) hS0 rfl rfl (by kernel_rfl) (by kernel_rfl) (by kernel_rfl) (by kernel_rfl) (wanted_none rfl) (fun _ _ _ h => h) (fun U hU => r_len22 (ao := a26) (c := c26) (by simp [eval_put_ne, eval_put_eq, size_put, hts])) ?_
            refine tkS 2 172 (v := .slice ao len cap) hS0 rfl rfl (by kernel_rfl) (by kernel_rfl) (by kernel_rfl) (by kernel_rfl) (wanted_none rfl) (fun _ _ _ h => h) (fun U hU => r_move (by simp [eval_put_ne, eval_put_eq, size_put, hts, e0])) ?_
            refine tkS 3 173 (v := .int .i64 (len : Nat)) hS0 rfl rfl (by kernel_rfl) (by kernel_rfl) (by kernel_rfl) (by kernel_rfl) (wanted_none rfl) (fun _ _ _ h => h) (fun U hU => r_len22 (ao := ao) (c := cap) (by simp [eval_put_ne, eval_put_eq, size_put, hts])) ?_
            refine tkS 4 174 (v := .bool true) hS0 rfl rfl (by kernel_rfl) (by kernel_rfl) (by kernel_rfl) (by kernel_rfl) (wanted_none rfl) (fun _ _ _ h => h) (fun U hU => (r_eql3 (p := (len : Int)) (q := (len : Int)) (by simp [eval_put_ne, eval_put_eq, size_put, hts]) (by simp [eval_put_ne, eval_put_eq, size_put, hts])).trans (by simp)) ?_
            refine tkS 5 175 (v := .bool true) hS0 rfl rfl (by kernel_rfl) (by kernel_rfl) (by kernel_rfl) (by kernel_rfl) (wanted_none rfl) (fun _ _ _ h => h) (fun U hU => r_move (by simp [eval_put_ne, eval_put_eq, size_put, hts])) ?_
            refine tkS 6 176 (v := .slice a32 nb c32) hS0 rfl rfl (by kernel_rfl) (by kernel_rfl) (by kernel_rfl) (by kernel_rfl) (wanted_some (j := 5) (d := 175) (bb := true) rfl rfl rfl (by simp [eval_put_ne, eval_put_eq, size_put, hts]) (by simp [size_put, hts])) (fun _ _ _ h => h) (fun U hU => r_move (by simp [eval_put_ne, eval_put_eq, size_put, hts, e23])) ?_
            refine tkS 8 178 (v := .slice ao len cap) hS0 rfl rfl (by kernel_rfl) (by kernel_rfl) (by kernel_rfl) (by kernel_rfl) (wanted_some (j := 5) (d := 175) (bb := true) rfl rfl rfl (by simp [eval_put_ne, eval_put_eq, size_put, hts]) (by simp [size_put, hts])) (fun _ _ _ h => h) (fun U hU => r_move (by simp [eval_put_ne, eval_put_eq, size_put, hts, e0])) ?_
            refine tkS 10 180 (v := .slice bo len2 cap2) hS0 rfl rfl (by kernel_rfl) (by kernel_rfl) (by kernel_rfl) (by kernel_rfl) (wanted_some (j := 5) (d := 175) (bb := true) rfl rfl rfl (by simp [eval_put_ne, eval_put_eq, size_put, hts]) (by simp [size_put, hts])) (fun _ _ _ h => h) (fun U hU => r_move (by simp [eval_put_ne, eval_put_eq, size_put, hts, e1])) ?_
            have q0 := M32.out.kept hkw
            have hv0 := HV.out.kept q0.k (fun _ _ h => h)
            have hbA := Blk.new w0 [] 3
            have hkA : Kept (fun _ => False) w0 (w0.alloc (.cells #[] 3)) := Kept.alloc _ _ _
            rw [show (([] : List Value).toArray) = #[] from rfl] at hbA
            have hSA := hkA.blk hS0 (fun h => h)
            refine oneVS 7 177 (v := .slice (some ⟨w0.heap.size, 0, none⟩) 0 0) (by kernel_rfl) rfl rfl (wanted_some (j := 5) (d := 175) (bb := true) rfl rfl rfl (by simp [eval_put_ne, eval_put_eq, size_put, hts]) (by simp [size_put, hts])) (r_bs0 Try.underlying22 Hi3.out Hz3.out Hs3.out) hSA ?_
            generalize w0.alloc (.cells #[] 3) = wA at hbA hkA hSA ⊢
            have hown : wA.ownsRow 0 3 1 (.slice (some ⟨w0.heap.size, 0, none⟩) 0 0) 0 [] := ownsRow_of (C := []) (by simpa using hbA) rfl (Nat.le_refl _) (by unfold maxLen; omega) rfl
            have qA := q0.kept hkA
            obtain ⟨eA, wE, hrE, hoE, hkE, hbE⟩ := append_row (P := Try.prog) (ty := 22) Try.underlying22 Hi3.out Hz3.out Hs3.out Hb3.out rfl (by decide) hown (HV.out.kept qA.k (fun _ _ h => h)) (DI_ones xs) (by rw [List.length_map]; have := hxm.out; omega)
            have hkE0 : Kept (fun _ => False) w0 wE := hkA.trans hkE (fun j hj h => by simp [Value.ownBlock] at h; omega)
            have qE := q0.kept hkE0
            have hSE := hkE0.blk hS0 (fun h => h)
            refine oneVS 9 179 (v := eA) (by kernel_rfl) rfl rfl (wanted_some (j := 5) (d := 175) (bb := true) rfl rfl rfl (by simp [eval_put_ne, eval_put_eq, size_put, hts]) (by simp [size_put, hts])) (r_app (by simp [eval_put_ne, eval_put_eq, size_put, hts]) (by simp [eval_put_ne, eval_put_eq, size_put, hts]) hrE) hSE ?_
            obtain ⟨eB, wF, hrF, hoF, hkF, hbF⟩ := append_row (P := Try.prog) (ty := 22) Try.underlying22 Hi3.out Hz3.out Hs3.out Hb3.out rfl (by decide) hoE (HU.out.kept qE.k (fun _ _ h => h)) (DI_ones ys) (by rw [List.length_map, List.length_map]; have := hxm.out; have := hym.out; omega)
            have hkF0 : Kept (fun _ => False) w0 wF := hkE0.trans hkF (fun j hj h => by
              rcases hbE with h' | h'
              · rw [h'] at h; simp [Value.ownBlock] at h; omega
              · rw [h'] at h; have h2 : wA.heap.size = j := by simpa using h
                have := hkA.size; omega)
            have qF := q0.kept hkF0
            have hSF := hkF0.blk hS0 (fun h => h)
            refine oneVS 11 181 (v := eB) (by kernel_rfl) rfl rfl (wanted_some (j := 5) (d := 175) (bb := true) rfl rfl rfl (by simp [eval_put_ne, eval_put_eq, size_put, hts]) (by simp [size_put, hts])) (r_app (by simp [eval_put_ne, eval_put_eq, size_put, hts]) (by simp [eval_put_ne, eval_put_eq, size_put, hts]) hrF) hSF ?_
            have hsF : SrcV wF eB ((xs ++ ys).map DI) := by have := ownsRow_src hoF; simpa using this
            refine oneCS 12 182 (by kernel_rfl) rfl rfl (wanted_some (j := 5) (d := 175) (bb := true) rfl rfl rfl (by simp [eval_put_ne, eval_put_eq, size_put, hts]) (by simp [size_put, hts])) (r_call2 Try.func15 (by kernel_rfl) rfl rfl (by simp [eval_put_ne, eval_put_eq, size_put, hts]) (by simp [eval_put_ne, eval_put_eq, size_put, hts])) (same_at wF (.slice a32 nb c32) eB (xs ++ ys) ((HB32.out.kept hkw (fun _ _ h => h)).kept hkF0 (fun _ _ h => h)) hsF (by rw [List.length_append]; have := hxl.out; have := hyl.out; omega)) ?_
            rintro e y1 ⟨rfl, hy1⟩
            have p1 := qF.kept hy1
            refine ⟨_, rfl, p1.b, ?_⟩
            refine tkS 13 183 (v := .bool true) p1.b rfl rfl (by kernel_rfl) (by kernel_rfl) (by kernel_rfl) (by kernel_rfl) (wanted_none rfl) (fun _ _ _ h => h) (fun U hU => r_pick (by simp [eval_put_ne, eval_put_eq, size_put, hts]) (by simp [eval_put_ne, eval_put_eq, size_put, hts])) ?_
            refine tkS 14 184 (v := .bool true) p1.b rfl rfl (by kernel_rfl) (by kernel_rfl) (by kernel_rfl) (by kernel_rfl) (wanted_none rfl) (fun _ _ _ h => h) (fun U hU => r_move (by simp [eval_put_ne, eval_put_eq, size_put, hts])) ?_
            refine tkS 15 185 (v := .slice ao len cap) p1.b rfl rfl (by kernel_rfl) (by kernel_rfl) (by kernel_rfl) (by kernel_rfl) (wanted_some (j := 14) (d := 184) (bb := true) rfl rfl rfl (by simp [eval_put_ne, eval_put_eq, size_put, hts]) (by simp [size_put, hts])) (fun _ _ _ h => h) (fun U hU => r_move (by simp [eval_put_ne, eval_put_eq, size_put, hts, e0])) ?_
            refine tkS 17 187 (v := .func (.func 16) #[] #[.pointer (some ⟨bb, 0, none⟩)]) p1.b rfl rfl (by kernel_rfl) (by kernel_rfl) (by kernel_rfl) (by kernel_rfl) (wanted_some (j := 14) (d := 184) (bb := true) rfl rfl rfl (by simp [eval_put_ne, eval_put_eq, size_put, hts]) (by simp [size_put, hts])) (fun _ _ _ h => h) (fun U hU => r_move (by simp [eval_put_ne, eval_put_eq, size_put, hts, e9])) ?_
            refine tkS 20 190 (v := .slice ao len cap) p1.b rfl rfl (by kernel_rfl) (by kernel_rfl) (by kernel_rfl) (by kernel_rfl) (wanted_some (j := 14) (d := 184) (bb := true) rfl rfl rfl (by simp [eval_put_ne, eval_put_eq, size_put, hts]) (by simp [size_put, hts])) (fun _ _ _ h => h) (fun U hU => r_move (by simp [eval_put_ne, eval_put_eq, size_put, hts, e0])) ?_
            refine tkS 21 191 (v := .int .i64 b) p1.b rfl rfl (by kernel_rfl) (by kernel_rfl) (by kernel_rfl) (by kernel_rfl) (wanted_some (j := 14) (d := 184) (bb := true) rfl rfl rfl (by simp [eval_put_ne, eval_put_eq, size_put, hts]) (by simp [size_put, hts])) (fun _ _ _ h => h) (fun U hU => r_ld3 (by simp [eval_put_ne, eval_put_eq, size_put, hts, e7]) (hU.cell 0)) ?_
            refine oneCS 16 186 (by kernel_rfl) rfl rfl (wanted_some (j := 14) (d := 184) (bb := true) rfl rfl rfl (by simp [eval_put_ne, eval_put_eq, size_put, hts]) (by simp [size_put, hts])) (r_call1 Try.func11 (by kernel_rfl) rfl rfl (by simp [eval_put_ne, eval_put_eq, size_put, hts])) (of_M y1 _ xs (HV.out.kept p1.k (fun _ _ h => h)) hxm.out) ?_
            rintro e y2 ⟨dy2, rfl, ⟨Xy2, hsy2⟩, hky2⟩
            have p2 := p1.kept hky2
            refine ⟨_, rfl, p2.b, ?_⟩
            refine oneCS 18 188 (by kernel_rfl) rfl rfl (wanted_some (j := 14) (d := 184) (bb := true) rfl rfl rfl (by simp [eval_put_ne, eval_put_eq, size_put, hts]) (by simp [size_put, hts])) (r_call2 Try.func10 (by kernel_rfl) rfl rfl (by simp [eval_put_ne, eval_put_eq, size_put, hts]) (by simp [eval_put_ne, eval_put_eq, size_put, hts])) (keep_M hsy2 p2.b) ?_
            rintro e y3 ⟨sy3, rfl, ⟨Xy3, Py3, hsy3⟩, hky3⟩
            have p3 := p2.kept hky3
            refine ⟨_, rfl, p3.b, ?_⟩
            refine oneCS 19 189 (by kernel_rfl) rfl rfl (wanted_some (j := 14) (d := 184) (bb := true) rfl rfl rfl (by simp [eval_put_ne, eval_put_eq, size_put, hts]) (by simp [size_put, hts])) (r_call1 Try.func9 (by kernel_rfl) rfl rfl (by simp [eval_put_ne, eval_put_eq, size_put, hts])) (list_M hsy3 (Nat.le_trans (List.length_filter_le _ _) hxm.out)) ?_
            rintro e y4 ⟨kv4, rfl, hoy4, hky4⟩
            have p4 := p3.kept hky4
            refine ⟨_, rfl, p4.b, ?_⟩
            refine oneCS 22 192 (by kernel_rfl) rfl rfl (wanted_some (j := 14) (d := 184) (bb := true) rfl rfl rfl (by simp [eval_put_ne, eval_put_eq, size_put, hts]) (by simp [size_put, hts])) (r_call3 Try.func28 (by kernel_rfl) rfl rfl (by simp [eval_put_ne, eval_put_eq, size_put, hts]) (by simp [eval_put_ne, eval_put_eq, size_put, hts]) rfl) (rkeep_at y4 _ xs b (HV.out.kept p4.k (fun _ _ h => h)) hxm.out) ?_
            rintro e y5 ⟨kv5, rfl, hg5⟩
            have p5 := p4.kept hg5.2.2
            refine ⟨_, rfl, p5.b, ?_⟩
            refine oneCS 23 193 (by kernel_rfl) rfl rfl (wanted_some (j := 14) (d := 184) (bb := true) rfl rfl rfl (by simp [eval_put_ne, eval_put_eq, size_put, hts]) (by simp [size_put, hts])) (r_call2 Try.func15 (by kernel_rfl) rfl rfl (by simp [eval_put_ne, eval_put_eq, size_put, hts]) (by simp [eval_put_ne, eval_put_eq, size_put, hts])) (same_at y5 _ _ (xs.filter (pB b)) ((ownsRow_src hoy4).kept hg5.2.2 (fun _ _ h => h)) (ownsRow_src hg5.1) (Nat.le_trans (List.length_filter_le _ _) hxm.out)) ?_
            rintro e y6 ⟨rfl, hy6⟩
            have p6 := p5.kept hy6
            refine ⟨_, rfl, p6.b, ?_⟩
            refine tkS 24 194 (v := .bool true) p6.b rfl rfl (by kernel_rfl) (by kernel_rfl) (by kernel_rfl) (by kernel_rfl) (wanted_none rfl) (fun _ _ _ h => h) (fun U hU => r_pick (by simp [eval_put_ne, eval_put_eq, size_put, hts]) (by simp [eval_put_ne, eval_put_eq, size_put, hts])) ?_
            refine tkS 25 6 (v := .bool true) p6.b rfl rfl (by kernel_rfl) (by kernel_rfl) (by kernel_rfl) (by kernel_rfl) (wanted_none rfl) (fun _ _ _ h => h) (fun U hU => r_assign (by simp [eval_put_ne, eval_put_eq, size_put, hts])) ?_
            refine doneS (by kernel_rfl) ?_
            have HFin := hide p6.k
            rw [hfr.out]
            clear hfr e0 e1 e7 e9 e21 e23 hts
            simp only [put_lit, put_none, List.set_cons_succ, List.set_cons_zero]
            clear p1 p2 p3 p4 p5 p6 q0 qA qE qF hsy2 hsy3 hoy4 hg5 hky2 hky3 hky4 hy1 hy6 hS0 hSA hSE hSF hkw hheap hkA hkE hkF hkE0 hkF0 hoE hoF hown hrE hrF hbE hbF hsF hv0 hbA
            go_wp2
            go_ret
            exact ⟨rfl, HFin.out⟩
  · have hltn : nw < len := by rw [Hnw.out, Hll.out]; exact hlt
    obtain ⟨g, off, rfl, hcs⟩ := HSl.out (by omega)
    have cu : w18.cell? ⟨g, off + nw, none⟩ = some (.int .i64 u) := by
      have := (M18.out.k.cells hcs (fun h => h)) nw (.int .i64 u) (by
        rw [List.getElem?_map, Hnw.out, List.getElem?_eq_getElem hlt, hu]
        rfl)
      exact this
    clear hcs hu hlt
    go_wp2_with fail
    refine (of_M w18 _ xs (HV.out.kept M18.out.k (fun _ _ h => h)) hxm.out).mono ?_
    rintro e w19 ⟨d19, rfl, ⟨X19, hs19⟩, hk19⟩
    have HS19 := hide hs19
    have M19 := hide (M18.out.kept hk19)
    clear hs19 hk19 M18 c18
    go_wp2_with fail
    refine (runs_M HS19.out k hk1.2 hxl.out).mono ?_
    rintro e w20 ⟨s20, rfl, hL20, hk20⟩
    have HL20 := hide hL20
    have M20 := hide (M19.out.kept hk20)
    clear hL20 hk20 M19 HS19
    go_wp2_with fail
    refine HL20.out.mono ?_
    rintro e w21 ⟨kv21, vs21, G21, rfl, h1, h2, h3⟩
    have M21 := hide (M20.out.kept h3)
    obtain ⟨nL, hnL⟩ : ∃ nL, nL = (runsM k xs).length := ⟨_, rfl⟩
    have hnL2 : nL ≤ 1000000 := by
      have := runsOf_cnt k.toNat xs
      have := hxl.out
      rw [hnL]
      unfold runsM
      split
      · omega
      · simp
    rw [← hnL] at h1
    have HnL := hide hnL
    obtain ⟨a21, c21, rfl, hv21, hc21⟩ := own_cells h1
    have HC21 := hide hc21
    have HV21 := hide hv21
    have HE21 := hide h2
    clear h1 h2 h3 M20 HL20 hnL hc21 hv21
    go_wp2_with fail
    refine (rruns_M w21 _ xs k hk1.2 (HV.out.kept M21.out.k (fun _ _ h => h)) hxl.out).mono ?_
    rintro e w22 ⟨kv22, vs22, G22, rfl, h1, h2, h3⟩
    have M22 := hide (M21.out.kept h3)
    rw [← HnL.out] at h1
    obtain ⟨a22, c22, rfl, hv22, hc22⟩ := own_cells h1
    have HC22 := hide hc22
    have HV22 := hide hv22
    have HE22 := hide h2
    have Hk22 := hide h3
    clear h1 h2 h3 M21 hc22 hv22
    go_wp2
    go_loopw [129] (fun i wr => ∃ j : Nat, i = .int .i64 j ∧ j ≤ nL ∧ Hid (Kept (fun _ => False) w22 wr)) (fun i _ => nL - (intOf i).toNat)
    case atStart => exact ⟨0, rfl, Nat.zero_le _, hide (Kept.refl _ _)⟩
    case round =>
      obtain ⟨j, rfl, hj, hK⟩ := hrel
      by_cases hlt : j < nL
      · obtain ⟨g1, o1, rfl, hc1⟩ := HC21.out j hlt
        obtain ⟨g2, o2, rfl, hc2⟩ := HC22.out j hlt
        have hj1 : j < vs21.length := by rw [HV21.out]; exact hlt
        have hj2 : j < vs22.length := by rw [HV22.out]; exact hlt
        have hjL : j < (runsM k xs).length := by rw [← HnL.out]; exact hlt
        obtain ⟨Ga, hEa, _⟩ := HE21.out.2 j _ _ (List.getElem?_eq_getElem hjL) (List.getElem?_eq_getElem hj1)
        obtain ⟨Gb, hEb, _⟩ := HE22.out.2 j _ _ (List.getElem?_eq_getElem hjL) (List.getElem?_eq_getElem hj2)
        obtain ⟨a1, ha1⟩ : ∃ a1, a1 = vs21[j] := ⟨_, rfl⟩
        obtain ⟨a2, ha2⟩ : ∃ a2, a2 = vs22[j] := ⟨_, rfl⟩
        obtain ⟨zs, hzs⟩ : ∃ zs, zs = (runsM k xs)[j] := ⟨_, rfl⟩
        rw [← ha1, ← hzs] at hEa
        rw [← ha2, ← hzs] at hEb
        have hzl : zs.length ≤ 1000000 := by
          have h1 := List.getElem_mem hjL
          rw [← hzs] at h1
          have h2 : zs.length ≤ (runsM k xs).flatten.length := (List.sublist_flatten_of_mem h1).length_le
          have h3 : (runsM k xs).flatten.length ≤ xs.length := by
            unfold runsM
            split
            · rw [runsOf_flat]; exact Nat.le_refl _
            · simp
          have := hxm.out
          omega
        have Hc1 : Hid (∀ W', Kept (fun _ => False) w22 W' → W'.cell? ⟨g1, o1 + j, none⟩ = some a1) := hide (fun W' hk => by rw [hc1 W' (Hk22.out.trans hk (fun _ _ h => h)), ha1]; exact List.getElem?_eq_getElem hj1)
        have Hc2 : Hid (∀ W', Kept (fun _ => False) w22 W' → W'.cell? ⟨g2, o2 + j, none⟩ = some a2) := hide (fun W' hk => by rw [hc2 W' hk, ha2]; exact List.getElem?_eq_getElem hj2)
        have Hsame : Hid (∀ W', Kept (fun _ => False) w22 W' → Calls Try.prog 15 #[a1, a2] W' fun e W'' => e = .returned (.bool true) ∧ Kept (fun _ => False) W' W'') := hide (fun W' hk => same_at W' a1 a2 zs ((ownsRow_src hEa.1).kept (Hk22.out.trans hk (fun _ _ h => h)) (fun _ _ h => h)) ((ownsRow_src hEb.1).kept hk (fun _ _ h => h)) hzl)
        clear hc1 hc2 hj1 hj2 hjL hEa hEb ha1 ha2 hzs hzl
        go_wp2
        refine hold_frame (p := fun fr => Code.wp Try.prog _ _ fr _) ?_
        intro fr hfr
        have e18 : fr.eval (.tmp 18) = .slice (some ⟨g1, o1, none⟩) nL c21 := by rw [hfr.out]; rfl
        have e19 : fr.eval (.tmp 19) = .slice (some ⟨g2, o2, none⟩) nL c22 := by rw [hfr.out]; rfl
        have e20 : fr.eval (.tmp 20) = .int .i64 (j : Nat) := by rw [hfr.out]; rfl
        have hts : fr.tmps.size = 195 := by rw [hfr.out]; rfl
        refine region_S 99 (fun U => U.cell? ⟨g1, o1 + j, none⟩ = some a1 ∧ U.cell? ⟨g2, o2 + j, none⟩ = some a2) Try.mixed ?_
        intro w0 hkw hheap
        have hS0 := (⟨Hc1.out w0 (hK.out.trans hkw (fun _ _ h => h)), Hc2.out w0 (hK.out.trans hkw (fun _ _ h => h))⟩ : w0.cell? ⟨g1, o1 + j, none⟩ = some a1 ∧ w0.cell? ⟨g2, o2 + j, none⟩ = some a2)
        refine tkS 0 132 (v := .slice (some ⟨g1, o1, none⟩) nL c21) hS0 rfl rfl (by kernel_rfl) (by kernel_rfl) (by kernel_rfl) (by kernel_rfl) (wanted_none rfl) (fun _ _ _ h => h) (fun U hU => r_move (by simp [eval_put_ne, eval_put_eq, size_put, hts, e18])) ?_
        refine tkS 1 133 (v := .int .i64 (j : Nat)) hS0 rfl rfl (by kernel_rfl) (by kernel_rfl) (by kernel_rfl) (by kernel_rfl) (wanted_none rfl) (fun _ _ _ h => h) (fun U hU => r_move (by simp [eval_put_ne, eval_put_eq, size_put, hts, e20])) ?_
        refine tkS 2 134 (v := .pointer (some ⟨g1, o1 + j, none⟩)) hS0 rfl rfl (by kernel_rfl) (by kernel_rfl) (by kernel_rfl) (by kernel_rfl) (wanted_none rfl) (fun _ _ _ h => h) (fun U hU => r_idx46 (b := g1) (off := o1) (len := nL) (cap := c21) (k := .i64) j (by simp [eval_put_ne, eval_put_eq, size_put, hts]) (by simp [eval_put_ne, eval_put_eq, size_put, hts]) hlt) ?_
        refine tkS 3 135 (v := a1) hS0 rfl rfl (by kernel_rfl) (by kernel_rfl) (by kernel_rfl) (by kernel_rfl) (wanted_none rfl) (fun _ _ _ h => h) (fun U hU => r_ld22 (by simp [eval_put_ne, eval_put_eq, size_put, hts]) hU.1) ?_
        refine tkS 4 136 (v := .slice (some ⟨g2, o2, none⟩) nL c22) hS0 rfl rfl (by kernel_rfl) (by kernel_rfl) (by kernel_rfl) (by kernel_rfl) (wanted_none rfl) (fun _ _ _ h => h) (fun U hU => r_move (by simp [eval_put_ne, eval_put_eq, size_put, hts, e19])) ?_
        refine tkS 5 137 (v := .int .i64 (j : Nat)) hS0 rfl rfl (by kernel_rfl) (by kernel_rfl) (by kernel_rfl) (by kernel_rfl) (wanted_none rfl) (fun _ _ _ h => h) (fun U hU => r_move (by simp [eval_put_ne, eval_put_eq, size_put, hts, e20])) ?_
        refine tkS 6 138 (v := .pointer (some ⟨g2, o2 + j, none⟩)) hS0 rfl rfl (by kernel_rfl) (by kernel_rfl) (by kernel_rfl) (by kernel_rfl) (wanted_none rfl) (fun _ _ _ h => h) (fun U hU => r_idx46 (b := g2) (off := o2) (len := nL) (cap := c22) (k := .i64) j (by simp [eval_put_ne, eval_put_eq, size_put, hts]) (by simp [eval_put_ne, eval_put_eq, size_put, hts]) hlt) ?_
        refine tkS 7 139 (v := a2) hS0 rfl rfl (by kernel_rfl) (by kernel_rfl) (by kernel_rfl) (by kernel_rfl) (wanted_none rfl) (fun _ _ _ h => h) (fun U hU => r_ld22 (by simp [eval_put_ne, eval_put_eq, size_put, hts]) hU.2) ?_
        refine oneCS 8 140 (by kernel_rfl) rfl rfl (wanted_none rfl) (r_call2 Try.func15 (by kernel_rfl) rfl rfl (by simp [eval_put_ne, eval_put_eq, size_put, hts]) (by simp [eval_put_ne, eval_put_eq, size_put, hts])) (Hsame.out w0 (hK.out.trans hkw (fun _ _ h => h))) ?_
        rintro e y9 ⟨rfl, hk9⟩
        have hK9 := (hK.out.trans hkw (fun _ _ h => h)).trans hk9 (fun _ _ h => h)
        have hS9 : y9.cell? ⟨g1, o1 + j, none⟩ = some a1 ∧ y9.cell? ⟨g2, o2 + j, none⟩ = some a2 := ⟨Hc1.out y9 hK9, Hc2.out y9 hK9⟩
        refine ⟨_, rfl, hS9, ?_⟩
        refine tkS 9 141 (v := .bool false) hS9 rfl rfl (by kernel_rfl) (by kernel_rfl) (by kernel_rfl) (by kernel_rfl) (wanted_none rfl) (fun _ _ _ h => h) (fun U hU => r_not (b := true) (by simp [eval_put_ne, eval_put_eq, size_put, hts])) ?_
        refine doneS (by kernel_rfl) ?_
        rw [hfr.out]
        clear hfr e18 e19 e20 hts
        simp only [put_lit, put_none, List.set_cons_succ, List.set_cons_zero]
        have HK9 := hide hK9
        clear hK9 hk9 hS9 hS0 hkw hheap
        go_wp2
        go_roundw
        case rel => exact ⟨j + 1, by simp, by omega, HK9⟩
        case measure => simp [intOf]; omega
      · obtain rfl : nL = j := by omega
        have M23 := hide (M22.out.kept hK.out)
        clear hK M22 HC21 HC22 HE21 HE22 Hk22 HV21 HV22 hlt hj
        obtain ⟨w23, hw23⟩ : ∃ w23, w23 = wr := ⟨_, rfl⟩
        rw [← hw23] at M23 ⊢
        clear hw23
        go_wp2_with fail
        refine (of_M w23 _ xs (HV.out.kept M23.out.k (fun _ _ h => h)) hxm.out).mono ?_
        rintro e w24 ⟨d24, rfl, ⟨X24, hs24⟩, hk24⟩
        have HS24 := hide hs24
        have M24 := hide (M23.out.kept hk24)
        clear hs24 hk24 M23
        go_wp2_with fail
        refine (map_M HS24.out).mono ?_
        rintro e w25 ⟨s25, rfl, ⟨X25, P25, hs25⟩, hk25⟩
        have HS25 := hide hs25
        have M25 := hide (M24.out.kept hk25)
        clear hs25 hk25 M24 HS24
        go_wp2_with fail
        refine (list_M HS25.out (by rw [List.length_map]; exact hxm.out)).mono ?_
        rintro e w26 ⟨kv26, rfl, h1, h3⟩
        have M26 := hide (M25.out.kept h3)
        rw [List.length_map, ← Hll.out] at h1
        obtain ⟨a26, c26, rfl, hv26, hc26⟩ := own_cells h1
        have HC26 := hide hc26
        clear h1 h3 M25 HS25 hc26 hv26
        go_wp2
        go_loopw [149] (fun i wr => ∃ j : Nat, i = .int .i64 j ∧ j ≤ len ∧ Hid (Kept (fun _ => False) w26 wr)) (fun i _ => len - (intOf i).toNat)
        case atStart => exact ⟨0, rfl, Nat.zero_le _, hide (Kept.refl _ _)⟩
        case round =>
          obtain ⟨j, rfl, hj, hK⟩ := hrel
          by_cases hlt : j < len
          · obtain ⟨g1, o1, rfl, hc1⟩ := HC26.out j hlt
            obtain ⟨gl, ol, hal, hcl⟩ := HSl.out (by omega)
            have hjx : j < xs.length := by rw [← Hll.out]; exact hlt
            have c1 : wr.cell? ⟨g1, o1 + j, none⟩ = some (.int .i64 (bits .xor .i64 xs[j].1 1)) := by
              rw [hc1 wr hK.out]
              simp [hjx, fX]
            have c2 : wr.cell? ⟨gl, ol + j, none⟩ = some (.int .i64 xs[j].1) := ((M26.out.kept hK.out).k.cells hcl (fun h => h)) j _ (by simp [hjx])
            obtain ⟨x, hx⟩ : ∃ x, x = xs[j].1 := ⟨_, rfl⟩
            rw [← hx] at c1 c2
            clear hx hcl hc1 hjx
            obtain ⟨rfl, rfl⟩ : g = gl ∧ off = ol := by simpa using hal
            go_wp2
            go_quiet (fail)
            go_wp2
            go_roundw
            case rel => exact ⟨j + 1, by simp, by omega, hide (hK.out.trans ⟨rfl, rfl, rfl, Nat.le_refl _, fun _ _ _ => rfl⟩ (fun _ _ h => h))⟩
            case measure => simp [intOf]; omega
          · obtain rfl : len = j := by omega
            have M27 := hide (M26.out.kept hK.out)
            clear hK M26 HC26 hlt hj
            obtain ⟨w27, hw27⟩ : ∃ w27, w27 = wr := ⟨_, rfl⟩
            rw [← hw27] at M27 ⊢
            clear hw27
            go_wp2_with fail
            refine (of_M w27 _ xs (HV.out.kept M27.out.k (fun _ _ h => h)) hxm.out).mono ?_
            rintro e w28 ⟨d28, rfl, ⟨X28, hs28⟩, hk28⟩
            have HS28 := hide hs28
            have M28 := hide (M27.out.kept hk28)
            clear hs28 hk28 M27
            go_wp2_with fail
            refine (of_M w28 _ ys (HU.out.kept M28.out.k (fun _ _ h => h)) hym.out).mono ?_
            rintro e w29 ⟨d29, rfl, ⟨X29, hs29⟩, hk29⟩
            have HS29 := hide hs29
            have HT29 := hide (HS28.out.kept hk29 (fun _ h => h.elim))
            have M29 := hide (M28.out.kept hk29)
            clear hs29 hk29 M28 HS28
            go_wp2_with (with_reducible refine stop_bs 68 ?_)
            refine hide ?_
            refine wpList_run rfl (run_bs1 Try.underlying68 Hi27.out Hz27.out Hs27.out [(Value.func (.func 43) #[] #[.pointer (some ⟨d28, 0, none⟩)]), Value.nilFunc, (Value.func (.func 43) #[] #[.pointer (some ⟨d29, 0, none⟩)])] rfl (by simp) (by simp [Value.cells]) rfl) ?_
            have hbA := Blk.new w29 [(Value.func (.func 43) #[] #[.pointer (some ⟨d28, 0, none⟩)]), Value.nilFunc, (Value.func (.func 43) #[] #[.pointer (some ⟨d29, 0, none⟩)])] 27
            have hk30 : Kept (fun _ => False) w29 (w29.alloc (.cells [(Value.func (.func 43) #[] #[.pointer (some ⟨d28, 0, none⟩)]), Value.nilFunc, (Value.func (.func 43) #[] #[.pointer (some ⟨d29, 0, none⟩)])].toArray 27)) := Kept.alloc _ _ _
            generalize w29.alloc (.cells [(Value.func (.func 43) #[] #[.pointer (some ⟨d28, 0, none⟩)]), Value.nilFunc, (Value.func (.func 43) #[] #[.pointer (some ⟨d29, 0, none⟩)])].toArray 27) = w30 at hbA hk30
            have HA30 : Hid (SrcV w30 (.slice (some ⟨w29.heap.size, 0, none⟩) 3 3) [(Value.func (.func 43) #[] #[.pointer (some ⟨d28, 0, none⟩)]), Value.nilFunc, (Value.func (.func 43) #[] #[.pointer (some ⟨d29, 0, none⟩)])]) := hide ⟨_, 3, rfl, by simp, fun _ => ⟨_, 0, rfl, by have := hbA.cells 0 3; simpa using this⟩, fun h => by cases h⟩
            have M30 := hide (M29.out.kept hk30)
            have HS1 := hide (HT29.out.kept hk30 (fun _ h => h.elim))
            have HS2 := hide (HS29.out.kept hk30 (fun _ h => h.elim))
            clear hbA hk30 M29 HS29 HT29
            simp only [put_lit, List.set_cons_succ, List.set_cons_zero]
            go_wp2_with fail
            refine (join_M HS1.out HS2.out ⟨_, _, rfl⟩ ⟨_, _, rfl⟩ HA30.out).mono ?_
            rintro e w31 ⟨s31, rfl, ⟨X31, P31, hs31⟩, hk31⟩
            have HS31 := hide hs31
            have M31 := hide (M30.out.kept hk31)
            clear hs31 hk31 M30 HS1 HS2 HA30
            go_wp2_with fail
            refine (list_M HS31.out (by rw [List.length_append]; have := hxl.out; have := hyl.out; omega)).mono ?_
            rintro e w32 ⟨kv32, rfl, h1, h3⟩
            have M32 := hide (M31.out.kept h3)
            obtain ⟨nb, hnb⟩ : ∃ nb, nb = (xs ++ ys).length := ⟨_, rfl⟩
            rw [← hnb] at h1
            have hs32 := ownsRow_src h1
            obtain ⟨a32, c32, rfl⟩ := ownsRow_slice h1
            have HB32 := hide hs32
            clear h1 h3 hs32 M31 HS31 hnb
            go_wp2
            refine hold_frame (p := fun fr => Code.wp Try.prog _ _ fr _) ?_
            intro fr hfr
            have e0 : fr.eval (.tmp 0) = .slice (some ⟨g, off, none⟩) len cap := by rw [hfr.out]; rfl
            have e1 : fr.eval (.tmp 1) = .slice bo len2 cap2 := by rw [hfr.out]; rfl
            have e7 : fr.eval (.tmp 7) = .pointer (some ⟨bb, 0, none⟩) := by rw [hfr.out]; rfl
            have e9 : fr.eval (.tmp 9) = .func (.func 16) #[] #[.pointer (some ⟨bb, 0, none⟩)] := by rw [hfr.out]; rfl
            have e21 : fr.eval (.tmp 21) = .slice a26 len c26 := by rw [hfr.out]; rfl
            have e23 : fr.eval (.tmp 23) = .slice a32 nb c32 := by rw [hfr.out]; rfl
            have hts : fr.tmps.size = 195 := by rw [hfr.out]; rfl
            refine region_S 99 (fun U => Blk U bb [.int .i64 b] 3) Try.mixed ?_
            intro w0 hkw hheap
            have hS0 := hkw.blk M32.out.b (fun h => h)
            refine tkS 0 170 (v := .slice a26 len c26) hS0 rfl rfl (by kernel_rfl) (by kernel_rfl) (by kernel_rfl) (by kernel_rfl) (wanted_none rfl) (fun _ _ _ h => h) (fun U hU => r_move (by simp [eval_put_ne, eval_put_eq, size_put, hts, e21])) ?_
            refine tkS 1 171 (v := .int .i64 (len : Nat)) hS0 rfl rfl (by kernel_rfl) (by kernel_rfl) (by kernel_rfl) (by kernel_rfl) (wanted_none rfl) (fun _ _ _ h => h) (fun U hU => r_len22 (ao := a26) (c := c26) (by simp [eval_put_ne, eval_put_eq, size_put, hts])) ?_
            refine tkS 2 172 (v := .slice (some ⟨g, off, none⟩) len cap) hS0 rfl rfl (by kernel_rfl) (by kernel_rfl) (by kernel_rfl) (by kernel_rfl) (wanted_none rfl) (fun _ _ _ h => h) (fun U hU => r_move (by simp [eval_put_ne, eval_put_eq, size_put, hts, e0])) ?_
            refine tkS 3 173 (v := .int .i64 (len : Nat)) hS0 rfl rfl (by kernel_rfl) (by kernel_rfl) (by kernel_rfl) (by kernel_rfl) (wanted_none rfl) (fun _ _ _ h => h) (fun U hU => r_len22 (ao := (some ⟨g, off, none⟩)) (c := cap) (by simp [eval_put_ne, eval_put_eq, size_put, hts])) ?_
            refine tkS 4 174 (v := .bool true) hS0 rfl rfl (by kernel_rfl) (by kernel_rfl) (by kernel_rfl) (by kernel_rfl) (wanted_none rfl) (fun _ _ _ h => h) (fun U hU => (r_eql3 (p := (len : Int)) (q := (len : Int)) (by simp [eval_put_ne, eval_put_eq, size_put, hts]) (by simp [eval_put_ne, eval_put_eq, size_put, hts])).trans (by simp)) ?_
            refine tkS 5 175 (v := .bool true) hS0 rfl rfl (by kernel_rfl) (by kernel_rfl) (by kernel_rfl) (by kernel_rfl) (wanted_none rfl) (fun _ _ _ h => h) (fun U hU => r_move (by simp [eval_put_ne, eval_put_eq, size_put, hts])) ?_
            refine tkS 6 176 (v := .slice a32 nb c32) hS0 rfl rfl (by kernel_rfl) (by kernel_rfl) (by kernel_rfl) (by kernel_rfl) (wanted_some (j := 5) (d := 175) (bb := true) rfl rfl rfl (by simp [eval_put_ne, eval_put_eq, size_put, hts]) (by simp [size_put, hts])) (fun _ _ _ h => h) (fun U hU => r_move (by simp [eval_put_ne, eval_put_eq, size_put, hts, e23])) ?_
            refine tkS 8 178 (v := .slice (some ⟨g, off, none⟩) len cap) hS0 rfl rfl (by kernel_rfl) (by kernel_rfl) (by kernel_rfl) (by kernel_rfl) (wanted_some (j := 5) (d := 175) (bb := true) rfl rfl rfl (by simp [eval_put_ne, eval_put_eq, size_put, hts]) (by simp [size_put, hts])) (fun _ _ _ h => h) (fun U hU => r_move (by simp [eval_put_ne, eval_put_eq, size_put, hts, e0])) ?_
            refine tkS 10 180 (v := .slice bo len2 cap2) hS0 rfl rfl (by kernel_rfl) (by kernel_rfl) (by kernel_rfl) (by kernel_rfl) (wanted_some (j := 5) (d := 175) (bb := true) rfl rfl rfl (by simp [eval_put_ne, eval_put_eq, size_put, hts]) (by simp [size_put, hts])) (fun _ _ _ h => h) (fun U hU => r_move (by simp [eval_put_ne, eval_put_eq, size_put, hts, e1])) ?_
            have q0 := M32.out.kept hkw
            have hv0 := HV.out.kept q0.k (fun _ _ h => h)
            have hbA := Blk.new w0 [] 3
            have hkA : Kept (fun _ => False) w0 (w0.alloc (.cells #[] 3)) := Kept.alloc _ _ _
            rw [show (([] : List Value).toArray) = #[] from rfl] at hbA
            have hSA := hkA.blk hS0 (fun h => h)
            refine oneVS 7 177 (v := .slice (some ⟨w0.heap.size, 0, none⟩) 0 0) (by kernel_rfl) rfl rfl (wanted_some (j := 5) (d := 175) (bb := true) rfl rfl rfl (by simp [eval_put_ne, eval_put_eq, size_put, hts]) (by simp [size_put, hts])) (r_bs0 Try.underlying22 Hi3.out Hz3.out Hs3.out) hSA ?_
            generalize w0.alloc (.cells #[] 3) = wA at hbA hkA hSA ⊢
            have hown : wA.ownsRow 0 3 1 (.slice (some ⟨w0.heap.size, 0, none⟩) 0 0) 0 [] := ownsRow_of (C := []) (by simpa using hbA) rfl (Nat.le_refl _) (by unfold maxLen; omega) rfl
            have qA := q0.kept hkA
            obtain ⟨eA, wE, hrE, hoE, hkE, hbE⟩ := append_row (P := Try.prog) (ty := 22) Try.underlying22 Hi3.out Hz3.out Hs3.out Hb3.out rfl (by decide) hown (HV.out.kept qA.k (fun _ _ h => h)) (DI_ones xs) (by rw [List.length_map]; have := hxm.out; omega)
            have hkE0 : Kept (fun _ => False) w0 wE := hkA.trans hkE (fun j hj h => by simp [Value.ownBlock] at h; omega)
            have qE := q0.kept hkE0
            have hSE := hkE0.blk hS0 (fun h => h)
            refine oneVS 9 179 (v := eA) (by kernel_rfl) rfl rfl (wanted_some (j := 5) (d := 175) (bb := true) rfl rfl rfl (by simp [eval_put_ne, eval_put_eq, size_put, hts]) (by simp [size_put, hts])) (r_app (by simp [eval_put_ne, eval_put_eq, size_put, hts]) (by simp [eval_put_ne, eval_put_eq, size_put, hts]) hrE) hSE ?_
            obtain ⟨eB, wF, hrF, hoF, hkF, hbF⟩ := append_row (P := Try.prog) (ty := 22) Try.underlying22 Hi3.out Hz3.out Hs3.out Hb3.out rfl (by decide) hoE (HU.out.kept qE.k (fun _ _ h => h)) (DI_ones ys) (by rw [List.length_map, List.length_map]; have := hxm.out; have := hym.out; omega)
            have hkF0 : Kept (fun _ => False) w0 wF := hkE0.trans hkF (fun j hj h => by
              rcases hbE with h' | h'
              · rw [h'] at h; simp [Value.ownBlock] at h; omega
              · rw [h'] at h; have h2 : wA.heap.size = j := by simpa using h
                have := hkA.size; omega)
            have qF := q0.kept hkF0
            have hSF := hkF0.blk hS0 (fun h => h)
            refine oneVS 11 181 (v := eB) (by kernel_rfl) rfl rfl (wanted_some (j := 5) (d := 175) (bb := true) rfl rfl rfl (by simp [eval_put_ne, eval_put_eq, size_put, hts]) (by simp [size_put, hts])) (r_app (by simp [eval_put_ne, eval_put_eq, size_put, hts]) (by simp [eval_put_ne, eval_put_eq, size_put, hts]) hrF) hSF ?_
            have hsF : SrcV wF eB ((xs ++ ys).map DI) := by have := ownsRow_src hoF; simpa using this
            refine oneCS 12 182 (by kernel_rfl) rfl rfl (wanted_some (j := 5) (d := 175) (bb := true) rfl rfl rfl (by simp [eval_put_ne, eval_put_eq, size_put, hts]) (by simp [size_put, hts])) (r_call2 Try.func15 (by kernel_rfl) rfl rfl (by simp [eval_put_ne, eval_put_eq, size_put, hts]) (by simp [eval_put_ne, eval_put_eq, size_put, hts])) (same_at wF (.slice a32 nb c32) eB (xs ++ ys) ((HB32.out.kept hkw (fun _ _ h => h)).kept hkF0 (fun _ _ h => h)) hsF (by rw [List.length_append]; have := hxl.out; have := hyl.out; omega)) ?_
            rintro e y1 ⟨rfl, hy1⟩
            have p1 := qF.kept hy1
            refine ⟨_, rfl, p1.b, ?_⟩
            refine tkS 13 183 (v := .bool true) p1.b rfl rfl (by kernel_rfl) (by kernel_rfl) (by kernel_rfl) (by kernel_rfl) (wanted_none rfl) (fun _ _ _ h => h) (fun U hU => r_pick (by simp [eval_put_ne, eval_put_eq, size_put, hts]) (by simp [eval_put_ne, eval_put_eq, size_put, hts])) ?_
            refine tkS 14 184 (v := .bool true) p1.b rfl rfl (by kernel_rfl) (by kernel_rfl) (by kernel_rfl) (by kernel_rfl) (wanted_none rfl) (fun _ _ _ h => h) (fun U hU => r_move (by simp [eval_put_ne, eval_put_eq, size_put, hts])) ?_
            refine tkS 15 185 (v := .slice (some ⟨g, off, none⟩) len cap) p1.b rfl rfl (by kernel_rfl) (by kernel_rfl) (by kernel_rfl) (by kernel_rfl) (wanted_some (j := 14) (d := 184) (bb := true) rfl rfl rfl (by simp [eval_put_ne, eval_put_eq, size_put, hts]) (by simp [size_put, hts])) (fun _ _ _ h => h) (fun U hU => r_move (by simp [eval_put_ne, eval_put_eq, size_put, hts, e0])) ?_
            refine tkS 17 187 (v := .func (.func 16) #[] #[.pointer (some ⟨bb, 0, none⟩)]) p1.b rfl rfl (by kernel_rfl) (by kernel_rfl) (by kernel_rfl) (by kernel_rfl) (wanted_some (j := 14) (d := 184) (bb := true) rfl rfl rfl (by simp [eval_put_ne, eval_put_eq, size_put, hts]) (by simp [size_put, hts])) (fun _ _ _ h => h) (fun U hU => r_move (by simp [eval_put_ne, eval_put_eq, size_put, hts, e9])) ?_
            refine tkS 20 190 (v := .slice (some ⟨g, off, none⟩) len cap) p1.b rfl rfl (by kernel_rfl) (by kernel_rfl) (by kernel_rfl) (by kernel_rfl) (wanted_some (j := 14) (d := 184) (bb := true) rfl rfl rfl (by simp [eval_put_ne, eval_put_eq, size_put, hts]) (by simp [size_put, hts])) (fun _ _ _ h => h) (fun U hU => r_move (by simp [eval_put_ne, eval_put_eq, size_put, hts, e0])) ?_
            refine tkS 21 191 (v := .int .i64 b) p1.b rfl rfl (by kernel_rfl) (by kernel_rfl) (by kernel_rfl) (by kernel_rfl) (wanted_some (j := 14) (d := 184) (bb := true) rfl rfl rfl (by simp [eval_put_ne, eval_put_eq, size_put, hts]) (by simp [size_put, hts])) (fun _ _ _ h => h) (fun U hU => r_ld3 (by simp [eval_put_ne, eval_put_eq, size_put, hts, e7]) (hU.cell 0)) ?_
            refine oneCS 16 186 (by kernel_rfl) rfl rfl (wanted_some (j := 14) (d := 184) (bb := true) rfl rfl rfl (by simp [eval_put_ne, eval_put_eq, size_put, hts]) (by simp [size_put, hts])) (r_call1 Try.func11 (by kernel_rfl) rfl rfl (by simp [eval_put_ne, eval_put_eq, size_put, hts])) (of_M y1 _ xs (HV.out.kept p1.k (fun _ _ h => h)) hxm.out) ?_
            rintro e y2 ⟨dy2, rfl, ⟨Xy2, hsy2⟩, hky2⟩
            have p2 := p1.kept hky2
            refine ⟨_, rfl, p2.b, ?_⟩
            refine oneCS 18 188 (by kernel_rfl) rfl rfl (wanted_some (j := 14) (d := 184) (bb := true) rfl rfl rfl (by simp [eval_put_ne, eval_put_eq, size_put, hts]) (by simp [size_put, hts])) (r_call2 Try.func10 (by kernel_rfl) rfl rfl (by simp [eval_put_ne, eval_put_eq, size_put, hts]) (by simp [eval_put_ne, eval_put_eq, size_put, hts])) (keep_M hsy2 p2.b) ?_
            rintro e y3 ⟨sy3, rfl, ⟨Xy3, Py3, hsy3⟩, hky3⟩
            have p3 := p2.kept hky3
            refine ⟨_, rfl, p3.b, ?_⟩
            refine oneCS 19 189 (by kernel_rfl) rfl rfl (wanted_some (j := 14) (d := 184) (bb := true) rfl rfl rfl (by simp [eval_put_ne, eval_put_eq, size_put, hts]) (by simp [size_put, hts])) (r_call1 Try.func9 (by kernel_rfl) rfl rfl (by simp [eval_put_ne, eval_put_eq, size_put, hts])) (list_M hsy3 (Nat.le_trans (List.length_filter_le _ _) hxm.out)) ?_
            rintro e y4 ⟨kv4, rfl, hoy4, hky4⟩
            have p4 := p3.kept hky4
            refine ⟨_, rfl, p4.b, ?_⟩
            refine oneCS 22 192 (by kernel_rfl) rfl rfl (wanted_some (j := 14) (d := 184) (bb := true) rfl rfl rfl (by simp [eval_put_ne, eval_put_eq, size_put, hts]) (by simp [size_put, hts])) (r_call3 Try.func28 (by kernel_rfl) rfl rfl (by simp [eval_put_ne, eval_put_eq, size_put, hts]) (by simp [eval_put_ne, eval_put_eq, size_put, hts]) rfl) (rkeep_at y4 _ xs b (HV.out.kept p4.k (fun _ _ h => h)) hxm.out) ?_
            rintro e y5 ⟨kv5, rfl, hg5⟩
            have p5 := p4.kept hg5.2.2
            refine ⟨_, rfl, p5.b, ?_⟩
            refine oneCS 23 193 (by kernel_rfl) rfl rfl (wanted_some (j := 14) (d := 184) (bb := true) rfl rfl rfl (by simp [eval_put_ne, eval_put_eq, size_put, hts]) (by simp [size_put, hts])) (r_call2 Try.func15 (by kernel_rfl) rfl rfl (by simp [eval_put_ne, eval_put_eq, size_put, hts]) (by simp [eval_put_ne, eval_put_eq, size_put, hts])) (same_at y5 _ _ (xs.filter (pB b)) ((ownsRow_src hoy4).kept hg5.2.2 (fun _ _ h => h)) (ownsRow_src hg5.1) (Nat.le_trans (List.length_filter_le _ _) hxm.out)) ?_
            rintro e y6 ⟨rfl, hy6⟩
            have p6 := p5.kept hy6
            refine ⟨_, rfl, p6.b, ?_⟩
            refine tkS 24 194 (v := .bool true) p6.b rfl rfl (by kernel_rfl) (by kernel_rfl) (by kernel_rfl) (by kernel_rfl) (wanted_none rfl) (fun _ _ _ h => h) (fun U hU => r_pick (by simp [eval_put_ne, eval_put_eq, size_put, hts]) (by simp [eval_put_ne, eval_put_eq, size_put, hts])) ?_
            refine tkS 25 6 (v := .bool true) p6.b rfl rfl (by kernel_rfl) (by kernel_rfl) (by kernel_rfl) (by kernel_rfl) (wanted_none rfl) (fun _ _ _ h => h) (fun U hU => r_assign (by simp [eval_put_ne, eval_put_eq, size_put, hts])) ?_
            refine doneS (by kernel_rfl) ?_
            have HFin := hide p6.k
            rw [hfr.out]
            clear hfr e0 e1 e7 e9 e21 e23 hts
            simp only [put_lit, put_none, List.set_cons_succ, List.set_cons_zero]
            clear p1 p2 p3 p4 p5 p6 q0 qA qE qF hsy2 hsy3 hoy4 hg5 hky2 hky3 hky4 hy1 hy6 hS0 hSA hSE hSF hkw hheap hkA hkE hkF hkE0 hkF0 hoE hoF hown hrE hrF hbE hbF hsF hv0 hbA
            go_wp2
            go_ret
            exact ⟨rfl, HFin.out⟩
end Go.Proofs.Ytgeffdoepcbhiaa
