/-
  The walk of RecordTells: which records are right, their bytes, and which record any bytes are.
-/
import Derived.Test.YtcdlgaknpmlfeaaRRefGetW
import Derived.Test.YtcdlgaknpmlfeaaRRefSame
namespace Go.Proofs.Ytcdlgaknpmlfeaa
open Go.RowKit Go.Shelf
set_option linter.unusedSimpArgs false
set_option linter.unusedVariables false

section
variable {ρ : Operand → Value} {w : World} {dst : Option Tmp} {ty : TypeId} {pos : String} {aft : Array Edge} {gd : Option (Nat × Bool)} {x y z : Operand}
theorem r_eql30 {p q : Int} (hx : ρ x = .int .i64 p) (hy : ρ y = .int .i64 q) : (execOp ρ ⟨dst, .binOp .eql 30 x y 30, ty, pos, aft, gd⟩).run Try.prog w = .ok (.value (.bool (decide (p = q)))) w := by
  go_simp
  by_cases h : p = q <;> simp [h]
end
theorem putR_pos (r : Rc) : 0 < (putR r).length := by
  unfold putR
  rw [List.length_append, numB_length]
  omega
set_option maxRecDepth 100000 in
set_option maxHeartbeats 16000000 in
theorem tells_at (w : World) (a c : Rv) (ha : RcAt w a) (hc : RcAt w c) (v : Value) (B : List Nat) (hs : Src w v B) (hBl : B.length ≤ 9223372036854775807) :
    Calls Try.prog 3 #[a.agg, c.agg, v] w fun e w' => e = .returned (.bool true) ∧ Kept (fun _ => False) w w' := by
  have hsv := hs
  obtain ⟨bo, cap, rfl, _⟩ := hsv
  have HS := hide hs
  obtain ⟨ak, at_, an, ⟨aa, al, ac⟩, aw⟩ := a
  obtain ⟨ck, ct, cn, ⟨ca, cl, cc⟩, cw⟩ := c
  have HAr := hide ha
  have HCr := hide hc
  simp only [Rv.agg]
  obtain ⟨nB, hnB⟩ : ∃ n, n = B.length := ⟨_, rfl⟩
  rw [← hnB] at hBl ⊢
  obtain ⟨v, hv⟩ : ∃ v, v = Value.slice bo B.length cap := ⟨_, rfl⟩
  rw [← hv] at HS
  have HV : Hid (v = .slice bo nB cap) := hide (by rw [hv, hnB])
  have HnB := hide hnB
  clear ha hc hs hnB hv
  obtain ⟨i24, hi24, hz24, hs24, hb24⟩ := info_parts Try.info24
  have Hi24 := hide hi24
  have Hz24 := hide hz24
  clear hi24 hz24 hs24 hb24
  go_enter Try.func3, Try.ntmps3
  go_wp2_with (with_reducible refine stop_boxA ?_)
  refine hide ?_
  refine aw_box (t := 24) (v := rAgg ak at_ an ⟨aa, al, ac⟩) rfl ?_
  intro w1 hb1 hk1 hz1
  go_wp2_with (with_reducible refine stop_boxA ?_)
  refine hide ?_
  refine aw_box (t := 24) (v := rAgg ck ct cn ⟨ca, cl, cc⟩) rfl ?_
  intro w2 hb2 hk2 hz2
  obtain ⟨ba, hba⟩ : ∃ b, b = w.heap.size := ⟨_, rfl⟩
  obtain ⟨bc, hbc⟩ : ∃ b, b = w1.heap.size := ⟨_, rfl⟩
  rw [← hba] at hb1 ⊢
  rw [← hbc] at hb2 ⊢
  have HBa2 : Hid (Blk w2 ba [.int .i64 ak, .int .i64 at_, .int .i64 an, .slice aa al ac] 24) := hide (hk2.blk hb1 (fun h => h))
  have HBc2 : Hid (Blk w2 bc [.int .i64 ck, .int .i64 ct, .int .i64 cn, .slice ca cl cc] 24) := hide hb2
  have HK2 := hide (hk1.trans hk2 (fun _ _ h => h))
  clear hb1 hb2 hk1 hk2 hz1 hz2 hba hbc
  go_wp2_with fail
  refine (first_law w2).mono ?_
  rintro e w3 ⟨rfl, hk3⟩
  have HBa3 := hide (hk3.blk HBa2.out (fun h => h))
  have HBc3 := hide (hk3.blk HBc2.out (fun h => h))
  have HK3 := hide (HK2.out.trans hk3 (fun _ _ h => h))
  clear hk3 HBa2 HBc2 HK2
  go_wp2_with (first | (with_reducible refine aw_load (t := 24) (x := .tmp 3) (M := [.int .i64 ak, .int .i64 at_, .int .i64 an, .slice aa al ac]) Try.agg24 rfl HBa3.out (by simp) (by simp) ?_) | fail)
  refine (great_at w3 ⟨ak, at_, an, ⟨aa, al, ac⟩, aw⟩ (HAr.out.kept HK3.out)).mono ?_
  rintro e w4 ⟨⟨q1, rfl⟩, hk4⟩
  have HBa4 := hide (hk4.blk HBa3.out (fun h => h))
  have HBc4 := hide (hk4.blk HBc3.out (fun h => h))
  have HK4 := hide (HK3.out.trans hk4 (fun _ _ h => h))
  clear hk4 HBa3 HBc3 HK3
  cases q1 with
  | true =>
    go_wp2
    go_ret
    exact ⟨rfl, HK4.out⟩
  | false =>
    have d0 : w4.cell? ⟨bc, 0, none⟩ = some (.int .i64 ck) := HBc4.out.cell 0
    have d1 : w4.cell? ⟨bc, 1, none⟩ = some (.int .i64 ct) := HBc4.out.cell 1
    have d2 : w4.cell? ⟨bc, 2, none⟩ = some (.int .i64 cn) := HBc4.out.cell 2
    have d3 : w4.cell? ⟨bc, 3, none⟩ = some (.slice ca cl cc) := HBc4.out.cell 3
    go_wp2_with fail
    refine (great_at w4 ⟨ck, ct, cn, ⟨ca, cl, cc⟩, cw⟩ (HCr.out.kept HK4.out)).mono ?_
    rintro e w5 ⟨⟨q2, rfl⟩, hk5⟩
    have HBa5 := hide (hk5.blk HBa4.out (fun h => h))
    have HBc5 := hide (hk5.blk HBc4.out (fun h => h))
    have HK5 := hide (HK4.out.trans hk5 (fun _ _ h => h))
    clear hk5 d0 d1 d2 d3 HBa4 HBc4 HK4
    cases q2 with
    | true =>
      go_wp2
      go_ret
      exact ⟨rfl, HK5.out⟩
    | false =>
      by_cases h20 : 2000 < nB
      · go_wp2
        go_ret
        exact ⟨rfl, HK5.out⟩
      · have hB20 : B.length ≤ 2000 := by have := HnB.out; omega
        go_wp2_with (first | (with_reducible refine aw_load (t := 24) (x := .tmp 3) (M := [.int .i64 ak, .int .i64 at_, .int .i64 an, .slice aa al ac]) Try.agg24 rfl HBa5.out (by simp) (by simp) ?_) | fail)
        obtain ⟨rb, hrb⟩ : ∃ b, b = rightR (Rv.rc ⟨ak, at_, an, ⟨aa, al, ac⟩, aw⟩) := ⟨_, rfl⟩
        have HRB : Hid (rightR (Rv.rc ⟨ak, at_, an, ⟨aa, al, ac⟩, aw⟩) = rb) := hide hrb.symm
        obtain ⟨sac, hsac⟩ : ∃ s, s = sameR ⟨ak, at_, an, ⟨aa, al, ac⟩, aw⟩ ⟨ck, ct, cn, ⟨ca, cl, cc⟩, cw⟩ := ⟨_, rfl⟩
        have HSac : Hid (sameR ⟨ak, at_, an, ⟨aa, al, ac⟩, aw⟩ ⟨ck, ct, cn, ⟨ca, cl, cc⟩, cw⟩ = sac) := hide hsac.symm
        refine (rright_at w5 ⟨ak, at_, an, ⟨aa, al, ac⟩, aw⟩ (HAr.out.kept HK5.out) rb HRB.out).mono ?_
        clear hrb hsac
        rintro e w6 ⟨rfl, hk6⟩
        have HBa := hide (hk6.blk HBa5.out (fun h => h))
        have HBc := hide (hk6.blk HBc5.out (fun h => h))
        have HKr := hide (HK5.out.trans hk6 (fun _ _ h => h))
        clear hk6 HBa5 HBc5 HK5
        rw [← HV.out]
        cases rb with
        | true =>
          obtain ⟨Bs, hBs⟩ : ∃ Bs, Bs = putR (Rv.rc ⟨ak, at_, an, ⟨aa, al, ac⟩, aw⟩) := ⟨_, rfl⟩
          have hl := putR_len HRB.out
          have hp := putR_pos (Rv.rc ⟨ak, at_, an, ⟨aa, al, ac⟩, aw⟩)
          rw [← hBs] at hl hp
          obtain ⟨nS, hnS⟩ : ∃ n, n = sectN Bs.length := ⟨_, rfl⟩
          have HBsl := hide hl
          have HPut : Hid (putRN (Rv.rc ⟨ak, at_, an, ⟨aa, al, ac⟩, aw⟩) = Bs) := hide (by unfold putRN; rw [HRB.out, hBs]; rfl)
          have HSec : Hid ((if Bs.length = 0 then 0 else sectN Bs.length) = nS) := hide (by rw [if_neg (by omega), hnS])
          have HRP : Hid (∀ w', Kept (fun _ => False) w w' → Calls Try.prog 10 #[.agg #[.int .i64 ak, .int .i64 at_, .int .i64 an, .slice aa al ac]] w' fun e w'' => e = .returned (.string (strN Bs)) ∧ Kept (fun _ => False) w' w'') := hide (fun w' hk => by rw [hBs]; exact rrput_at w' ⟨ak, at_, an, ⟨aa, al, ac⟩, aw⟩ (HAr.out.kept hk) HRB.out)
          have HRS : Hid (∀ w', Kept (fun _ => False) w w' → Calls Try.prog 11 #[.agg #[.int .i64 ak, .int .i64 at_, .int .i64 an, .slice aa al ac]] w' fun e w'' => e = .returned (.int .i64 (nS : Nat)) ∧ Kept (fun _ => False) w' w'') := hide (fun w' hk => by rw [hnS, hBs]; exact rrsect_at w' ⟨ak, at_, an, ⟨aa, al, ac⟩, aw⟩ (HAr.out.kept hk) HRB.out)
          clear hl hp hBs hnS
          go_wp2
          refine hold_frame (p := fun fr => Code.wp Try.prog _ _ fr _) ?_
          intro fr hfr
          have e3 : fr.eval (.tmp 3) = .pointer (some ⟨ba, 0, none⟩) := by rw [hfr.out]; rfl
          have hts : fr.tmps.size = 87 := by rw [hfr.out]; rfl
          refine region_S0 99 Try.mixed ?_
          intro w0 hkw hheap
          have HA := hide (hkw.blk HBa.out (fun h => h))
          have HC := hide (hkw.blk HBc.out (fun h => h))
          have HK0 := hide (HKr.out.trans hkw (fun _ _ h => h))
          have hS0 : Kept (fun _ => False) w0 w0 := Kept.refl (fun _ => False) w0
          refine ⟨Kept (fun _ => False) w0, ?_⟩
          refine tkS 0 28 (v := .agg #[.int .i64 ak, .int .i64 at_, .int .i64 an, .slice aa al ac]) hS0 rfl rfl (by kernel_rfl) (by kernel_rfl) (by kernel_rfl) (by kernel_rfl) (wanted_none rfl) (fun _ _ _ h => h) (fun U hU => run_load_agg (off := 0) Try.agg24 (by simp [eval_put_ne, eval_put_eq, size_put, hts, e3]) (((hS0).trans hU (fun _ _ h => h)).blk HA.out (fun h => h)) (by simp)) ?_
          refine tkS 2 30 (v := .agg #[.int .i64 ak, .int .i64 at_, .int .i64 an, .slice aa al ac]) hS0 rfl rfl (by kernel_rfl) (by kernel_rfl) (by kernel_rfl) (by kernel_rfl) (wanted_none rfl) (fun _ _ _ h => h) (fun U hU => run_load_agg (off := 0) Try.agg24 (by simp [eval_put_ne, eval_put_eq, size_put, hts, e3]) (((hS0).trans hU (fun _ _ h => h)).blk HA.out (fun h => h)) (by simp)) ?_
          refine oneCS 1 29 (by kernel_rfl) rfl rfl (wanted_none rfl) (r_call1 Try.func10 (by kernel_rfl) rfl rfl (by simp [eval_put_ne, eval_put_eq, size_put, hts])) (HRP.out w0 HK0.out) ?_
          rintro e v1 ⟨rfl, k1⟩
          refine ⟨_, rfl, k1, ?_⟩
          have kk1 : Kept (fun _ => False) w0 v1 := k1
          refine raiseM (S' := Kept (fun _ => False) v1) (fun U hU => k1.trans hU (fun _ _ h => h)) ?_
          have hs1 : (Kept (fun _ => False) v1) _ := Kept.refl _ _
          refine oneCS 3 31 (by kernel_rfl) rfl rfl (wanted_none rfl) (r_call1 Try.func11 (by kernel_rfl) rfl rfl (by simp [eval_put_ne, eval_put_eq, size_put, hts])) (HRS.out v1 (HK0.out.trans kk1 (fun _ _ h => h))) ?_
          rintro e v2 ⟨rfl, k2⟩
          refine ⟨_, rfl, k2, ?_⟩
          have kk2 : Kept (fun _ => False) w0 v2 := kk1.trans k2 (fun _ _ h => h)
          refine raiseM (S' := Kept (fun _ => False) v2) (fun U hU => k2.trans hU (fun _ _ h => h)) ?_
          have hs2 : (Kept (fun _ => False) v2) _ := Kept.refl _ _
          refine tkS 4 7 (v := .string (strN Bs)) hs2 rfl rfl (by kernel_rfl) (by kernel_rfl) (by kernel_rfl) (by kernel_rfl) (wanted_none rfl) (fun _ _ _ h => h) (fun U hU => r_assign (by simp [eval_put_ne, eval_put_eq, size_put, hts])) ?_
          refine tkS 5 8 (v := .int .i64 (nS : Nat)) hs2 rfl rfl (by kernel_rfl) (by kernel_rfl) (by kernel_rfl) (by kernel_rfl) (wanted_none rfl) (fun _ _ _ h => h) (fun U hU => r_assign (by simp [eval_put_ne, eval_put_eq, size_put, hts])) ?_
          refine doneS (by kernel_rfl) ?_
          rw [hfr.out]
          clear hfr e3 hts
          simp only [put_lit, put_none, List.set_cons_succ, List.set_cons_zero]
          have HBa7 := hide (kk2.blk HA.out (fun h => h))
          have HBc7 := hide (kk2.blk HC.out (fun h => h))
          have HK7 := hide (HK0.out.trans kk2 (fun _ _ h => h))
          clear hS0 hs1 hs2 k1 k2 kk1 kk2 hkw hheap HA HC HK0 HBa HBc HKr
          have HSV := hide (HS.out.kept HK7.out)
          go_wp2_with fail
          refine (get_at v2 v B HSV.out (by omega)).mono ?_
          rintro e g1 ⟨x, ec, rfl, hgx, hkg1⟩
          obtain ⟨xk, xt, xn, ⟨xa, xl, xc⟩, xw⟩ := x
          have HGX := hide hgx
          have HBa1 := hide (hkg1.blk HBa7.out (fun h => h))
          have HBc1 := hide (hkg1.blk HBc7.out (fun h => h))
          have HK1' := hide (HK7.out.trans hkg1 (fun _ _ h => h))
          clear hgx hkg1 HSV HBa7 HBc7 HK7
          simp only [Rv.agg, rAgg]
          go_wp2_with (first
            | ((with_reducible refine aw_alloc (dst := some 9) Hi24.out Hz24.out ?_); intro g2 hb2 hk2 hz2; have Yz2 := hide hz2; clear hz2)
            | ((with_reducible refine aw_store (x := .tmp 9) (M := [.int .i64 xk, .int .i64 xt, .int .i64 xn, .slice xa xl xc]) Try.agg24 rfl rfl rfl (by simp [Value.oneCell']) hb2 (by simp [Value.cells]) ?_); intro g3 hb3 hk3 hz3; clear hz3; rw [put_whole _ _ (by simp [Value.cells])] at hb3; have hk13 : Kept (fun _ => False) g1 g3 := hk2.trans hk3 (fun i hi h => by omega); have HK3' := hide (HK1'.out.trans hk13 (fun _ _ h => h)); have HSV3 := hide (HS.out.kept HK3'.out); have hgx3 := HGX.out.1.kept hk13)
            | fail)
          obtain ⟨bx, hbx⟩ : ∃ b, b = g1.heap.size := ⟨_, rfl⟩
          rw [← hbx] at hb3 ⊢
          have HBx3 : Hid (Blk g3 bx [.int .i64 xk, .int .i64 xt, .int .i64 xn, .slice xa xl xc] 24) := hide hb3
          have HXr3 : Hid (RcAt g3 ⟨xk, xt, xn, ⟨xa, xl, xc⟩, xw⟩) := hide hgx3
          have HGX2 := hide HGX.out.2
          have HBa3 := hide (hk13.blk HBa1.out (fun h => h))
          have HBc3 := hide (hk13.blk HBc1.out (fun h => h))
          clear hb2 hb3 hk2 hk3 hk13 hbx Yz2 HGX hgx3 HBa1 HBc1 HK1'
          go_wp2_with fail
          refine (rrget_at g3 v B HSV3.out (by omega)).mono ?_
          rintro e g4 ⟨y, ok, rfl, hgy, hkg4⟩
          obtain ⟨yk, yt, yn, ⟨ya, yl, yc⟩, yw⟩ := y
          have HGY := hide hgy
          have HBa4 := hide (hkg4.blk HBa3.out (fun h => h))
          have HBc4 := hide (hkg4.blk HBc3.out (fun h => h))
          have HBx4 := hide (hkg4.blk HBx3.out (fun h => h))
          have HXr4 := hide (HXr3.out.kept hkg4)
          have HK4' := hide (HK3'.out.trans hkg4 (fun _ _ h => h))
          clear hgy hkg4 HBa3 HBc3 HBx3 HXr3 HK3' HSV3
          simp only [Rv.agg, rAgg]
          cases ok with
          | true =>
            have hec : ec = 0 ∧ Rv.rc ⟨xk, xt, xn, ⟨xa, xl, xc⟩, xw⟩ = Rv.rc ⟨yk, yt, yn, ⟨ya, yl, yc⟩, yw⟩ := by
              rcases HGX2.out with ⟨p1, p2⟩ | ⟨p1, p2, p3⟩ <;> rcases HGY.out.2 with ⟨q1, q2⟩ | ⟨q1, q2, q3⟩
              · first | exact ⟨p2, Option.some.inj (p1.symm.trans q1)⟩ | cases q2
              · rw [p1] at q1; cases q1
              · rw [p1] at q1; cases q1
              · first | exact ⟨p2, p3.trans q3.symm⟩ | cases q2
            have HSxy : Hid (sameR ⟨xk, xt, xn, ⟨xa, xl, xc⟩, xw⟩ ⟨yk, yt, yn, ⟨ya, yl, yc⟩, yw⟩ = true) := hide ((sameR_iff _ _).2 hec.2)
            obtain ⟨rfl, -⟩ := hec
            go_wp2_with (first
              | ((with_reducible refine aw_alloc (dst := some 11) Hi24.out Hz24.out ?_); intro g5 hb5 hk5 hz5; have Yz5 := hide hz5; clear hz5)
              | ((with_reducible refine aw_store (x := .tmp 11) (M := [.int .i64 yk, .int .i64 yt, .int .i64 yn, .slice ya yl yc]) Try.agg24 rfl rfl rfl (by simp [Value.oneCell']) hb5 (by simp [Value.cells]) ?_); intro g6 hb6 hk6 hz6; clear hz6; rw [put_whole _ _ (by simp [Value.cells])] at hb6; have hk46 : Kept (fun _ => False) g4 g6 := hk5.trans hk6 (fun i hi h => by omega); have HK9 := hide (HK4'.out.trans hk46 (fun _ _ h => h)); have HYr9 : Hid (RcAt g6 ⟨yk, yt, yn, ⟨ya, yl, yc⟩, yw⟩) := hide (HGY.out.1.kept hk46))
              | fail)
            obtain ⟨by_, hby⟩ : ∃ b, b = g4.heap.size := ⟨_, rfl⟩
            rw [← hby] at hb6 ⊢
            have HBy9 : Hid (Blk g6 by_ [.int .i64 yk, .int .i64 yt, .int .i64 yn, .slice ya yl yc] 24) := hide hb6
            have HBa9 := hide (hk46.blk HBa4.out (fun h => h))
            have HBc9 := hide (hk46.blk HBc4.out (fun h => h))
            have HBx9 := hide (hk46.blk HBx4.out (fun h => h))
            have HXr9 := hide (HXr4.out.kept hk46)
            clear hb5 hb6 hk5 hk6 hk46 hby Yz5 HGY HGX2 HBa4 HBc4 HBx4 HXr4 HK4'
            try go_wp2
            refine hold_frame (p := fun fr => Code.wp Try.prog _ _ fr _) ?_
            intro fr hfr
            have e3 : fr.eval (.tmp 3) = .pointer (some ⟨ba, 0, none⟩) := by rw [hfr.out]; rfl
            have e4 : fr.eval (.tmp 4) = .pointer (some ⟨bc, 0, none⟩) := by rw [hfr.out]; rfl
            have e7 : fr.eval (.tmp 7) = .string (strN Bs) := by rw [hfr.out]; rfl
            have e8 : fr.eval (.tmp 8) = .int .i64 (nS : Nat) := by rw [hfr.out]; rfl
            have e9 : fr.eval (.tmp 9) = .pointer (some ⟨bx, 0, none⟩) := by rw [hfr.out]; rfl
            have e10 : fr.eval (.tmp 10) = .int .i64 0 := by rw [hfr.out]; rfl
            have e11 : fr.eval (.tmp 11) = .pointer (some ⟨by_, 0, none⟩) := by rw [hfr.out]; rfl
            have e12 : fr.eval (.tmp 12) = .bool true := by rw [hfr.out]; rfl
            have hts : fr.tmps.size = 87 := by rw [hfr.out]; rfl
            refine region_S0 99 Try.mixed ?_
            intro w0 hkw hheap
            have HA := hide (hkw.blk HBa9.out (fun h => h))
            have HC := hide (hkw.blk HBc9.out (fun h => h))
            have HX := hide (hkw.blk HBx9.out (fun h => h))
            have HY := hide (hkw.blk HBy9.out (fun h => h))
            have HK0 := hide (HK9.out.trans hkw (fun _ _ h => h))
            have HXr := hide (HXr9.out.kept hkw)
            have HYr := hide (HYr9.out.kept hkw)
            have hS0 : Kept (fun _ => False) w0 w0 := Kept.refl (fun _ => False) w0
            refine ⟨Kept (fun _ => False) w0, ?_⟩
            refine tkS 0 42 (v := .agg #[.int .i64 ak, .int .i64 at_, .int .i64 an, .slice aa al ac]) hS0 rfl rfl (by kernel_rfl) (by kernel_rfl) (by kernel_rfl) (by kernel_rfl) (wanted_none rfl) (fun _ _ _ h => h) (fun U hU => run_load_agg (off := 0) Try.agg24 (by simp [eval_put_ne, eval_put_eq, size_put, hts, e3]) (((hS0).trans hU (fun _ _ h => h)).blk HA.out (fun h => h)) (by simp)) ?_
            refine tkS 2 44 (v := .agg #[.int .i64 ak, .int .i64 at_, .int .i64 an, .slice aa al ac]) hS0 rfl rfl (by kernel_rfl) (by kernel_rfl) (by kernel_rfl) (by kernel_rfl) (wanted_none rfl) (fun _ _ _ h => h) (fun U hU => run_load_agg (off := 0) Try.agg24 (by simp [eval_put_ne, eval_put_eq, size_put, hts, e3]) (((hS0).trans hU (fun _ _ h => h)).blk HA.out (fun h => h)) (by simp)) ?_
            have K0 := HK0
            have KW0 := Kept.refl (fun _ => False) w0
            refine oneCS 1 43 (by kernel_rfl) rfl rfl (wanted_none rfl) (r_call1 Try.func14 (by kernel_rfl) rfl rfl (by simp [eval_put_ne, eval_put_eq, size_put, hts])) ((right_at w0 ⟨ak, at_, an, ⟨aa, al, ac⟩, aw⟩ (HAr.out.kept K0.out)).mono (fun _ _ h => by rw [HRB.out] at h; exact h)) ?_
            rintro e v1 ⟨rfl, k1⟩
            refine ⟨_, rfl, k1, ?_⟩
            have KW1 : Kept (fun _ => False) w0 v1 := KW0.trans k1 (fun _ _ h => h)
            have K1 := hide (K0.out.trans k1 (fun _ _ h => h))
            refine raiseM (S' := Kept (fun _ => False) v1) (fun U hU => k1.trans hU (fun _ _ h => h)) ?_
            have hs1 : (Kept (fun _ => False) v1) _ := Kept.refl _ _
            refine oneCS 3 45 (by kernel_rfl) rfl rfl (wanted_none rfl) (r_call1 Try.func9 (by kernel_rfl) rfl rfl (by simp [eval_put_ne, eval_put_eq, size_put, hts])) (rright_at v1 ⟨ak, at_, an, ⟨aa, al, ac⟩, aw⟩ (HAr.out.kept K1.out) true HRB.out) ?_
            rintro e v2 ⟨rfl, k2⟩
            refine ⟨_, rfl, k2, ?_⟩
            have KW2 : Kept (fun _ => False) w0 v2 := KW1.trans k2 (fun _ _ h => h)
            have K2 := hide (K1.out.trans k2 (fun _ _ h => h))
            refine raiseM (S' := Kept (fun _ => False) v2) (fun U hU => k2.trans hU (fun _ _ h => h)) ?_
            have hs2 : (Kept (fun _ => False) v2) _ := Kept.refl _ _
            refine tkS 4 46 (v := .bool true) hs2 rfl rfl (by kernel_rfl) (by kernel_rfl) (by kernel_rfl) (by kernel_rfl) (wanted_none rfl) (fun _ _ _ h => h) (fun U hU => (r_eql4 (p := true) (q := true) (by simp [eval_put_ne, eval_put_eq, size_put, hts]) (by simp [eval_put_ne, eval_put_eq, size_put, hts])).trans (by rfl)) ?_
            refine tkS 5 47 (v := .bool true) hs2 rfl rfl (by kernel_rfl) (by kernel_rfl) (by kernel_rfl) (by kernel_rfl) (wanted_none rfl) (fun _ _ _ h => h) (fun U hU => r_move (by simp [eval_put_ne, eval_put_eq, size_put, hts])) ?_
            refine tkS 6 48 (v := .agg #[.int .i64 ak, .int .i64 at_, .int .i64 an, .slice aa al ac]) hs2 rfl rfl (by kernel_rfl) (by kernel_rfl) (by kernel_rfl) (by kernel_rfl) (wanted_some (j := 5) (d := 47) (bb := true) rfl rfl rfl (by simp [eval_put_ne, eval_put_eq, size_put, hts]) (by simp [size_put, hts])) (fun _ _ _ h => h) (fun U hU => run_load_agg (off := 0) Try.agg24 (by simp [eval_put_ne, eval_put_eq, size_put, hts, e3]) (((KW2).trans hU (fun _ _ h => h)).blk HA.out (fun h => h)) (by simp)) ?_
            refine tkS 9 51 (v := .string (strN Bs)) hs2 rfl rfl (by kernel_rfl) (by kernel_rfl) (by kernel_rfl) (by kernel_rfl) (wanted_some (j := 5) (d := 47) (bb := true) rfl rfl rfl (by simp [eval_put_ne, eval_put_eq, size_put, hts]) (by simp [size_put, hts])) (fun _ _ _ h => h) (fun U hU => r_move (by simp [eval_put_ne, eval_put_eq, size_put, hts, e7])) ?_
            refine oneCS 7 49 (by kernel_rfl) rfl rfl (wanted_some (j := 5) (d := 47) (bb := true) rfl rfl rfl (by simp [eval_put_ne, eval_put_eq, size_put, hts]) (by simp [size_put, hts])) (r_call1 Try.func15 (by kernel_rfl) rfl rfl (by simp [eval_put_ne, eval_put_eq, size_put, hts])) (put_at v2 ⟨ak, at_, an, ⟨aa, al, ac⟩, aw⟩ (HAr.out.kept K2.out)) ?_
            rintro e v3 ⟨⟨ta, tn, tc⟩, rfl, hsp0, k3⟩
            refine ⟨_, rfl, k3, ?_⟩
            have KW3 : Kept (fun _ => False) w0 v3 := KW2.trans k3 (fun _ _ h => h)
            have K3 := hide (K2.out.trans k3 (fun _ _ h => h))
            have hsp : Src v3 (.slice ta tn tc) Bs := by rw [← HPut.out]; exact hsp0
            have KP := Kept.refl (fun _ => False) v3
            refine raiseM (S' := Kept (fun _ => False) v3) (fun U hU => k3.trans hU (fun _ _ h => h)) ?_
            have hs3 : (Kept (fun _ => False) v3) _ := Kept.refl _ _
            refine tkS 8 50 (v := .string (strN Bs)) hs3 rfl rfl (by kernel_rfl) (by kernel_rfl) (by kernel_rfl) (by kernel_rfl) (wanted_some (j := 5) (d := 47) (bb := true) rfl rfl rfl (by simp [eval_put_ne, eval_put_eq, size_put, hts]) (by simp [size_put, hts])) (fun _ _ _ h => h) (fun U hU => r_strS (by simp [eval_put_ne, eval_put_eq, size_put, hts]) (hsp.kept ((KP).trans hU (fun _ _ h => h)))) ?_
            refine tkS 10 52 (v := .bool true) hs3 rfl rfl (by kernel_rfl) (by kernel_rfl) (by kernel_rfl) (by kernel_rfl) (wanted_some (j := 5) (d := 47) (bb := true) rfl rfl rfl (by simp [eval_put_ne, eval_put_eq, size_put, hts]) (by simp [size_put, hts])) (fun _ _ _ h => h) (fun U hU => (r_eql9 (p := strN Bs) (q := strN Bs) (by simp [eval_put_ne, eval_put_eq, size_put, hts]) (by simp [eval_put_ne, eval_put_eq, size_put, hts])).trans (by simp)) ?_
            refine tkS 11 53 (v := .bool true) hs3 rfl rfl (by kernel_rfl) (by kernel_rfl) (by kernel_rfl) (by kernel_rfl) (wanted_none rfl) (fun _ _ _ h => h) (fun U hU => r_pick (by simp [eval_put_ne, eval_put_eq, size_put, hts]) (by simp [eval_put_ne, eval_put_eq, size_put, hts])) ?_
            refine tkS 12 54 (v := .bool true) hs3 rfl rfl (by kernel_rfl) (by kernel_rfl) (by kernel_rfl) (by kernel_rfl) (wanted_none rfl) (fun _ _ _ h => h) (fun U hU => r_move (by simp [eval_put_ne, eval_put_eq, size_put, hts])) ?_
            refine tkS 13 55 (v := .agg #[.int .i64 ak, .int .i64 at_, .int .i64 an, .slice aa al ac]) hs3 rfl rfl (by kernel_rfl) (by kernel_rfl) (by kernel_rfl) (by kernel_rfl) (wanted_some (j := 12) (d := 54) (bb := true) rfl rfl rfl (by simp [eval_put_ne, eval_put_eq, size_put, hts]) (by simp [size_put, hts])) (fun _ _ _ h => h) (fun U hU => run_load_agg (off := 0) Try.agg24 (by simp [eval_put_ne, eval_put_eq, size_put, hts, e3]) (((KW3).trans hU (fun _ _ h => h)).blk HA.out (fun h => h)) (by simp)) ?_
            refine tkS 15 57 (v := .int .i64 (nS : Nat)) hs3 rfl rfl (by kernel_rfl) (by kernel_rfl) (by kernel_rfl) (by kernel_rfl) (wanted_some (j := 12) (d := 54) (bb := true) rfl rfl rfl (by simp [eval_put_ne, eval_put_eq, size_put, hts]) (by simp [size_put, hts])) (fun _ _ _ h => h) (fun U hU => r_move (by simp [eval_put_ne, eval_put_eq, size_put, hts, e8])) ?_
            refine oneCS 14 56 (by kernel_rfl) rfl rfl (wanted_some (j := 12) (d := 54) (bb := true) rfl rfl rfl (by simp [eval_put_ne, eval_put_eq, size_put, hts]) (by simp [size_put, hts])) (r_call1 Try.func16 (by kernel_rfl) rfl rfl (by simp [eval_put_ne, eval_put_eq, size_put, hts])) (rsect_at v3 ⟨ak, at_, an, ⟨aa, al, ac⟩, aw⟩ (HAr.out.kept K3.out) Bs HPut.out HBsl.out nS HSec.out) ?_
            rintro e v4 ⟨rfl, k4⟩
            refine ⟨_, rfl, k4, ?_⟩
            have KW4 : Kept (fun _ => False) w0 v4 := KW3.trans k4 (fun _ _ h => h)
            have K4 := hide (K3.out.trans k4 (fun _ _ h => h))
            replace KP := KP.trans k4 (fun _ _ h => h)
            refine raiseM (S' := Kept (fun _ => False) v4) (fun U hU => k4.trans hU (fun _ _ h => h)) ?_
            have hs4 : (Kept (fun _ => False) v4) _ := Kept.refl _ _
            refine tkS 16 58 (v := .bool true) hs4 rfl rfl (by kernel_rfl) (by kernel_rfl) (by kernel_rfl) (by kernel_rfl) (wanted_some (j := 12) (d := 54) (bb := true) rfl rfl rfl (by simp [eval_put_ne, eval_put_eq, size_put, hts]) (by simp [size_put, hts])) (fun _ _ _ h => h) (fun U hU => (r_eql3 (p := ((nS : Nat) : Int)) (q := ((nS : Nat) : Int)) (by simp [eval_put_ne, eval_put_eq, size_put, hts]) (by simp [eval_put_ne, eval_put_eq, size_put, hts])).trans (by simp)) ?_
            refine tkS 17 59 (v := .bool true) hs4 rfl rfl (by kernel_rfl) (by kernel_rfl) (by kernel_rfl) (by kernel_rfl) (wanted_none rfl) (fun _ _ _ h => h) (fun U hU => r_pick (by simp [eval_put_ne, eval_put_eq, size_put, hts]) (by simp [eval_put_ne, eval_put_eq, size_put, hts])) ?_
            refine tkS 18 60 (v := .bool true) hs4 rfl rfl (by kernel_rfl) (by kernel_rfl) (by kernel_rfl) (by kernel_rfl) (wanted_none rfl) (fun _ _ _ h => h) (fun U hU => r_move (by simp [eval_put_ne, eval_put_eq, size_put, hts])) ?_
            refine tkS 19 61 (v := .agg #[.int .i64 ak, .int .i64 at_, .int .i64 an, .slice aa al ac]) hs4 rfl rfl (by kernel_rfl) (by kernel_rfl) (by kernel_rfl) (by kernel_rfl) (wanted_some (j := 18) (d := 60) (bb := true) rfl rfl rfl (by simp [eval_put_ne, eval_put_eq, size_put, hts]) (by simp [size_put, hts])) (fun _ _ _ h => h) (fun U hU => run_load_agg (off := 0) Try.agg24 (by simp [eval_put_ne, eval_put_eq, size_put, hts, e3]) (((KW4).trans hU (fun _ _ h => h)).blk HA.out (fun h => h)) (by simp)) ?_
            refine tkS 20 62 (v := .agg #[.int .i64 ck, .int .i64 ct, .int .i64 cn, .slice ca cl cc]) hs4 rfl rfl (by kernel_rfl) (by kernel_rfl) (by kernel_rfl) (by kernel_rfl) (wanted_some (j := 18) (d := 60) (bb := true) rfl rfl rfl (by simp [eval_put_ne, eval_put_eq, size_put, hts]) (by simp [size_put, hts])) (fun _ _ _ h => h) (fun U hU => run_load_agg (off := 0) Try.agg24 (by simp [eval_put_ne, eval_put_eq, size_put, hts, e4]) (((KW4).trans hU (fun _ _ h => h)).blk HC.out (fun h => h)) (by simp)) ?_
            refine tkS 22 64 (v := .agg #[.int .i64 ak, .int .i64 at_, .int .i64 an, .slice aa al ac]) hs4 rfl rfl (by kernel_rfl) (by kernel_rfl) (by kernel_rfl) (by kernel_rfl) (wanted_some (j := 18) (d := 60) (bb := true) rfl rfl rfl (by simp [eval_put_ne, eval_put_eq, size_put, hts]) (by simp [size_put, hts])) (fun _ _ _ h => h) (fun U hU => run_load_agg (off := 0) Try.agg24 (by simp [eval_put_ne, eval_put_eq, size_put, hts, e3]) (((KW4).trans hU (fun _ _ h => h)).blk HA.out (fun h => h)) (by simp)) ?_
            refine tkS 23 65 (v := .agg #[.int .i64 ck, .int .i64 ct, .int .i64 cn, .slice ca cl cc]) hs4 rfl rfl (by kernel_rfl) (by kernel_rfl) (by kernel_rfl) (by kernel_rfl) (wanted_some (j := 18) (d := 60) (bb := true) rfl rfl rfl (by simp [eval_put_ne, eval_put_eq, size_put, hts]) (by simp [size_put, hts])) (fun _ _ _ h => h) (fun U hU => run_load_agg (off := 0) Try.agg24 (by simp [eval_put_ne, eval_put_eq, size_put, hts, e4]) (((KW4).trans hU (fun _ _ h => h)).blk HC.out (fun h => h)) (by simp)) ?_
            refine oneCS 21 63 (by kernel_rfl) rfl rfl (wanted_some (j := 18) (d := 60) (bb := true) rfl rfl rfl (by simp [eval_put_ne, eval_put_eq, size_put, hts]) (by simp [size_put, hts])) (r_call2 Try.func17 (by kernel_rfl) rfl rfl (by simp [eval_put_ne, eval_put_eq, size_put, hts]) (by simp [eval_put_ne, eval_put_eq, size_put, hts])) (rsame_at v4 ⟨ak, at_, an, ⟨aa, al, ac⟩, aw⟩ ⟨ck, ct, cn, ⟨ca, cl, cc⟩, cw⟩ (HAr.out.kept K4.out) (HCr.out.kept K4.out) sac HSac.out) ?_
            rintro e v5 ⟨rfl, k5⟩
            refine ⟨_, rfl, k5, ?_⟩
            have KW5 : Kept (fun _ => False) w0 v5 := KW4.trans k5 (fun _ _ h => h)
            have K5 := hide (K4.out.trans k5 (fun _ _ h => h))
            replace KP := KP.trans k5 (fun _ _ h => h)
            refine raiseM (S' := Kept (fun _ => False) v5) (fun U hU => k5.trans hU (fun _ _ h => h)) ?_
            have hs5 : (Kept (fun _ => False) v5) _ := Kept.refl _ _
            refine oneCS 24 66 (by kernel_rfl) rfl rfl (wanted_some (j := 18) (d := 60) (bb := true) rfl rfl rfl (by simp [eval_put_ne, eval_put_eq, size_put, hts]) (by simp [size_put, hts])) (r_call2 Try.func18 (by kernel_rfl) rfl rfl (by simp [eval_put_ne, eval_put_eq, size_put, hts]) (by simp [eval_put_ne, eval_put_eq, size_put, hts])) (refsame_at v5 ⟨ak, at_, an, ⟨aa, al, ac⟩, aw⟩ ⟨ck, ct, cn, ⟨ca, cl, cc⟩, cw⟩ (HAr.out.kept K5.out) (HCr.out.kept K5.out) sac HSac.out) ?_
            rintro e v6 ⟨rfl, k6⟩
            refine ⟨_, rfl, k6, ?_⟩
            have KW6 : Kept (fun _ => False) w0 v6 := KW5.trans k6 (fun _ _ h => h)
            have K6 := hide (K5.out.trans k6 (fun _ _ h => h))
            replace KP := KP.trans k6 (fun _ _ h => h)
            refine raiseM (S' := Kept (fun _ => False) v6) (fun U hU => k6.trans hU (fun _ _ h => h)) ?_
            have hs6 : (Kept (fun _ => False) v6) _ := Kept.refl _ _
            refine tkS 25 67 (v := .bool true) hs6 rfl rfl (by kernel_rfl) (by kernel_rfl) (by kernel_rfl) (by kernel_rfl) (wanted_some (j := 18) (d := 60) (bb := true) rfl rfl rfl (by simp [eval_put_ne, eval_put_eq, size_put, hts]) (by simp [size_put, hts])) (fun _ _ _ h => h) (fun U hU => (r_eql4 (p := sac) (q := sac) (by simp [eval_put_ne, eval_put_eq, size_put, hts]) (by simp [eval_put_ne, eval_put_eq, size_put, hts])).trans (by simp)) ?_
            refine tkS 26 68 (v := .bool true) hs6 rfl rfl (by kernel_rfl) (by kernel_rfl) (by kernel_rfl) (by kernel_rfl) (wanted_none rfl) (fun _ _ _ h => h) (fun U hU => r_pick (by simp [eval_put_ne, eval_put_eq, size_put, hts]) (by simp [eval_put_ne, eval_put_eq, size_put, hts])) ?_
            refine tkS 27 69 (v := .bool true) hs6 rfl rfl (by kernel_rfl) (by kernel_rfl) (by kernel_rfl) (by kernel_rfl) (wanted_none rfl) (fun _ _ _ h => h) (fun U hU => r_move (by simp [eval_put_ne, eval_put_eq, size_put, hts])) ?_
            refine tkS 28 70 (v := .agg #[.int .i64 xk, .int .i64 xt, .int .i64 xn, .slice xa xl xc]) hs6 rfl rfl (by kernel_rfl) (by kernel_rfl) (by kernel_rfl) (by kernel_rfl) (wanted_some (j := 27) (d := 69) (bb := true) rfl rfl rfl (by simp [eval_put_ne, eval_put_eq, size_put, hts]) (by simp [size_put, hts])) (fun _ _ _ h => h) (fun U hU => run_load_agg (off := 0) Try.agg24 (by simp [eval_put_ne, eval_put_eq, size_put, hts, e9]) (((KW6).trans hU (fun _ _ h => h)).blk HX.out (fun h => h)) (by simp)) ?_
            refine tkS 29 71 (v := .agg #[.int .i64 yk, .int .i64 yt, .int .i64 yn, .slice ya yl yc]) hs6 rfl rfl (by kernel_rfl) (by kernel_rfl) (by kernel_rfl) (by kernel_rfl) (wanted_some (j := 27) (d := 69) (bb := true) rfl rfl rfl (by simp [eval_put_ne, eval_put_eq, size_put, hts]) (by simp [size_put, hts])) (fun _ _ _ h => h) (fun U hU => run_load_agg (off := 0) Try.agg24 (by simp [eval_put_ne, eval_put_eq, size_put, hts, e11]) (((KW6).trans hU (fun _ _ h => h)).blk HY.out (fun h => h)) (by simp)) ?_
            refine oneCS 30 72 (by kernel_rfl) rfl rfl (wanted_some (j := 27) (d := 69) (bb := true) rfl rfl rfl (by simp [eval_put_ne, eval_put_eq, size_put, hts]) (by simp [size_put, hts])) (r_call2 Try.func18 (by kernel_rfl) rfl rfl (by simp [eval_put_ne, eval_put_eq, size_put, hts]) (by simp [eval_put_ne, eval_put_eq, size_put, hts])) (refsame_at v6 ⟨xk, xt, xn, ⟨xa, xl, xc⟩, xw⟩ ⟨yk, yt, yn, ⟨ya, yl, yc⟩, yw⟩ (HXr.out.kept KW6) (HYr.out.kept KW6) true HSxy.out) ?_
            rintro e v7 ⟨rfl, k7⟩
            refine ⟨_, rfl, k7, ?_⟩
            have KW7 : Kept (fun _ => False) w0 v7 := KW6.trans k7 (fun _ _ h => h)
            have K7 := hide (K6.out.trans k7 (fun _ _ h => h))
            replace KP := KP.trans k7 (fun _ _ h => h)
            refine raiseM (S' := Kept (fun _ => False) v7) (fun U hU => k7.trans hU (fun _ _ h => h)) ?_
            have hs7 : (Kept (fun _ => False) v7) _ := Kept.refl _ _
            refine tkS 31 73 (v := .bool true) hs7 rfl rfl (by kernel_rfl) (by kernel_rfl) (by kernel_rfl) (by kernel_rfl) (wanted_none rfl) (fun _ _ _ h => h) (fun U hU => r_pick (by simp [eval_put_ne, eval_put_eq, size_put, hts]) (by simp [eval_put_ne, eval_put_eq, size_put, hts])) ?_
            refine tkS 32 74 (v := .bool true) hs7 rfl rfl (by kernel_rfl) (by kernel_rfl) (by kernel_rfl) (by kernel_rfl) (wanted_none rfl) (fun _ _ _ h => h) (fun U hU => r_move (by simp [eval_put_ne, eval_put_eq, size_put, hts])) ?_
            refine tkS 33 75 (v := .int .i64 0) hs7 rfl rfl (by kernel_rfl) (by kernel_rfl) (by kernel_rfl) (by kernel_rfl) (wanted_some (j := 32) (d := 74) (bb := true) rfl rfl rfl (by simp [eval_put_ne, eval_put_eq, size_put, hts]) (by simp [size_put, hts])) (fun _ _ _ h => h) (fun U hU => r_move (by simp [eval_put_ne, eval_put_eq, size_put, hts, e10])) ?_
            refine tkS 34 76 (v := .bool true) hs7 rfl rfl (by kernel_rfl) (by kernel_rfl) (by kernel_rfl) (by kernel_rfl) (wanted_some (j := 32) (d := 74) (bb := true) rfl rfl rfl (by simp [eval_put_ne, eval_put_eq, size_put, hts]) (by simp [size_put, hts])) (fun _ _ _ h => h) (fun U hU => (r_eql30 (p := 0) (q := 0) (by simp [eval_put_ne, eval_put_eq, size_put, hts]) rfl).trans (by rfl)) ?_
            refine tkS 35 77 (v := .bool true) hs7 rfl rfl (by kernel_rfl) (by kernel_rfl) (by kernel_rfl) (by kernel_rfl) (wanted_some (j := 32) (d := 74) (bb := true) rfl rfl rfl (by simp [eval_put_ne, eval_put_eq, size_put, hts]) (by simp [size_put, hts])) (fun _ _ _ h => h) (fun U hU => r_move (by simp [eval_put_ne, eval_put_eq, size_put, hts, e12])) ?_
            refine tkS 36 78 (v := .bool true) hs7 rfl rfl (by kernel_rfl) (by kernel_rfl) (by kernel_rfl) (by kernel_rfl) (wanted_some (j := 32) (d := 74) (bb := true) rfl rfl rfl (by simp [eval_put_ne, eval_put_eq, size_put, hts]) (by simp [size_put, hts])) (fun _ _ _ h => h) (fun U hU => (r_eql4 (p := true) (q := true) (by simp [eval_put_ne, eval_put_eq, size_put, hts]) (by simp [eval_put_ne, eval_put_eq, size_put, hts])).trans (by rfl)) ?_
            refine tkS 37 79 (v := .bool true) hs7 rfl rfl (by kernel_rfl) (by kernel_rfl) (by kernel_rfl) (by kernel_rfl) (wanted_none rfl) (fun _ _ _ h => h) (fun U hU => r_pick (by simp [eval_put_ne, eval_put_eq, size_put, hts]) (by simp [eval_put_ne, eval_put_eq, size_put, hts])) ?_
            refine tkS 38 80 (v := .bool true) hs7 rfl rfl (by kernel_rfl) (by kernel_rfl) (by kernel_rfl) (by kernel_rfl) (wanted_none rfl) (fun _ _ _ h => h) (fun U hU => r_move (by simp [eval_put_ne, eval_put_eq, size_put, hts])) ?_
            refine tkS 39 81 (v := .bool true) hs7 rfl rfl (by kernel_rfl) (by kernel_rfl) (by kernel_rfl) (by kernel_rfl) (wanted_some (j := 38) (d := 80) (bb := true) rfl rfl rfl (by simp [eval_put_ne, eval_put_eq, size_put, hts]) (by simp [size_put, hts])) (fun _ _ _ h => h) (fun U hU => r_move (by simp [eval_put_ne, eval_put_eq, size_put, hts, e12])) ?_
            refine tkS 40 82 (v := .bool true) hs7 rfl rfl (by kernel_rfl) (by kernel_rfl) (by kernel_rfl) (by kernel_rfl) (wanted_some (j := 38) (d := 80) (bb := true) rfl rfl rfl (by simp [eval_put_ne, eval_put_eq, size_put, hts]) (by simp [size_put, hts])) (fun _ _ _ h => h) (fun U hU => r_move (by simp [eval_put_ne, eval_put_eq, size_put, hts])) ?_
            refine tkNS 41 83 hs7 rfl rfl (by kernel_rfl) (by kernel_rfl) (by kernel_rfl) (by kernel_rfl) (wanted_not (j := 40) (d := 82) (bb := false) rfl rfl rfl (by simp [eval_put_ne, eval_put_eq, size_put, hts]) (by simp [size_put, hts])) (fun _ _ _ h => h) ?_
            refine tkNS 42 84 hs7 rfl rfl (by kernel_rfl) (by kernel_rfl) (by kernel_rfl) (by kernel_rfl) (wanted_not (j := 40) (d := 82) (bb := false) rfl rfl rfl (by simp [eval_put_ne, eval_put_eq, size_put, hts]) (by simp [size_put, hts])) (fun _ _ _ h => h) ?_
            refine tkS 43 85 (v := .bool true) hs7 rfl rfl (by kernel_rfl) (by kernel_rfl) (by kernel_rfl) (by kernel_rfl) (wanted_some (j := 38) (d := 80) (bb := true) rfl rfl rfl (by simp [eval_put_ne, eval_put_eq, size_put, hts]) (by simp [size_put, hts])) (fun _ _ _ h => h) (fun U hU => r_pick (by simp [eval_put_ne, eval_put_eq, size_put, hts]) rfl) ?_
            refine tkS 44 86 (v := .bool true) hs7 rfl rfl (by kernel_rfl) (by kernel_rfl) (by kernel_rfl) (by kernel_rfl) (wanted_none rfl) (fun _ _ _ h => h) (fun U hU => r_pick (by simp [eval_put_ne, eval_put_eq, size_put, hts]) (by simp [eval_put_ne, eval_put_eq, size_put, hts])) ?_
            refine tkS 45 6 (v := .bool true) hs7 rfl rfl (by kernel_rfl) (by kernel_rfl) (by kernel_rfl) (by kernel_rfl) (wanted_none rfl) (fun _ _ _ h => h) (fun U hU => r_assign (by simp [eval_put_ne, eval_put_eq, size_put, hts])) ?_
            refine doneS (by kernel_rfl) ?_
            rw [hfr.out]
            clear hfr e3 e4 e7 e8 e9 e10 e11 e12 hts
            simp only [put_lit, put_none, List.set_cons_succ, List.set_cons_zero]
            have HKF := hide K7.out
            clear hS0 hs1 hs2 hs3 hs4 hs5 hs6 hs7 hkw hheap KW0 KW1 KW2 KW3 KW4 KW5 KW6 KW7 KP k1 k2 k3 k4 k5 k6 k7
            go_wp2
            go_ret
            exact ⟨rfl, HKF.out⟩
          | false =>
            have hec : ec = 20 ∧ Rv.rc ⟨xk, xt, xn, ⟨xa, xl, xc⟩, xw⟩ = Rv.rc ⟨yk, yt, yn, ⟨ya, yl, yc⟩, yw⟩ := by
              rcases HGX2.out with ⟨p1, p2⟩ | ⟨p1, p2, p3⟩ <;> rcases HGY.out.2 with ⟨q1, q2⟩ | ⟨q1, q2, q3⟩
              · first | exact ⟨p2, Option.some.inj (p1.symm.trans q1)⟩ | cases q2
              · rw [p1] at q1; cases q1
              · rw [p1] at q1; cases q1
              · first | exact ⟨p2, p3.trans q3.symm⟩ | cases q2
            have HSxy : Hid (sameR ⟨xk, xt, xn, ⟨xa, xl, xc⟩, xw⟩ ⟨yk, yt, yn, ⟨ya, yl, yc⟩, yw⟩ = true) := hide ((sameR_iff _ _).2 hec.2)
            obtain ⟨rfl, -⟩ := hec
            go_wp2_with (first
              | ((with_reducible refine aw_alloc (dst := some 11) Hi24.out Hz24.out ?_); intro g5 hb5 hk5 hz5; have Yz5 := hide hz5; clear hz5)
              | ((with_reducible refine aw_store (x := .tmp 11) (M := [.int .i64 yk, .int .i64 yt, .int .i64 yn, .slice ya yl yc]) Try.agg24 rfl rfl rfl (by simp [Value.oneCell']) hb5 (by simp [Value.cells]) ?_); intro g6 hb6 hk6 hz6; clear hz6; rw [put_whole _ _ (by simp [Value.cells])] at hb6; have hk46 : Kept (fun _ => False) g4 g6 := hk5.trans hk6 (fun i hi h => by omega); have HK9 := hide (HK4'.out.trans hk46 (fun _ _ h => h)); have HYr9 : Hid (RcAt g6 ⟨yk, yt, yn, ⟨ya, yl, yc⟩, yw⟩) := hide (HGY.out.1.kept hk46))
              | fail)
            obtain ⟨by_, hby⟩ : ∃ b, b = g4.heap.size := ⟨_, rfl⟩
            rw [← hby] at hb6 ⊢
            have HBy9 : Hid (Blk g6 by_ [.int .i64 yk, .int .i64 yt, .int .i64 yn, .slice ya yl yc] 24) := hide hb6
            have HBa9 := hide (hk46.blk HBa4.out (fun h => h))
            have HBc9 := hide (hk46.blk HBc4.out (fun h => h))
            have HBx9 := hide (hk46.blk HBx4.out (fun h => h))
            have HXr9 := hide (HXr4.out.kept hk46)
            clear hb5 hb6 hk5 hk6 hk46 hby Yz5 HGY HGX2 HBa4 HBc4 HBx4 HXr4 HK4'
            try go_wp2
            refine hold_frame (p := fun fr => Code.wp Try.prog _ _ fr _) ?_
            intro fr hfr
            have e3 : fr.eval (.tmp 3) = .pointer (some ⟨ba, 0, none⟩) := by rw [hfr.out]; rfl
            have e4 : fr.eval (.tmp 4) = .pointer (some ⟨bc, 0, none⟩) := by rw [hfr.out]; rfl
            have e7 : fr.eval (.tmp 7) = .string (strN Bs) := by rw [hfr.out]; rfl
            have e8 : fr.eval (.tmp 8) = .int .i64 (nS : Nat) := by rw [hfr.out]; rfl
            have e9 : fr.eval (.tmp 9) = .pointer (some ⟨bx, 0, none⟩) := by rw [hfr.out]; rfl
            have e10 : fr.eval (.tmp 10) = .int .i64 20 := by rw [hfr.out]; rfl
            have e11 : fr.eval (.tmp 11) = .pointer (some ⟨by_, 0, none⟩) := by rw [hfr.out]; rfl
            have e12 : fr.eval (.tmp 12) = .bool false := by rw [hfr.out]; rfl
            have hts : fr.tmps.size = 87 := by rw [hfr.out]; rfl
            refine region_S0 99 Try.mixed ?_
            intro w0 hkw hheap
            have HA := hide (hkw.blk HBa9.out (fun h => h))
            have HC := hide (hkw.blk HBc9.out (fun h => h))
            have HX := hide (hkw.blk HBx9.out (fun h => h))
            have HY := hide (hkw.blk HBy9.out (fun h => h))
            have HK0 := hide (HK9.out.trans hkw (fun _ _ h => h))
            have HXr := hide (HXr9.out.kept hkw)
            have HYr := hide (HYr9.out.kept hkw)
            have hS0 : Kept (fun _ => False) w0 w0 := Kept.refl (fun _ => False) w0
            refine ⟨Kept (fun _ => False) w0, ?_⟩
            refine tkS 0 42 (v := .agg #[.int .i64 ak, .int .i64 at_, .int .i64 an, .slice aa al ac]) hS0 rfl rfl (by kernel_rfl) (by kernel_rfl) (by kernel_rfl) (by kernel_rfl) (wanted_none rfl) (fun _ _ _ h => h) (fun U hU => run_load_agg (off := 0) Try.agg24 (by simp [eval_put_ne, eval_put_eq, size_put, hts, e3]) (((hS0).trans hU (fun _ _ h => h)).blk HA.out (fun h => h)) (by simp)) ?_
            refine tkS 2 44 (v := .agg #[.int .i64 ak, .int .i64 at_, .int .i64 an, .slice aa al ac]) hS0 rfl rfl (by kernel_rfl) (by kernel_rfl) (by kernel_rfl) (by kernel_rfl) (wanted_none rfl) (fun _ _ _ h => h) (fun U hU => run_load_agg (off := 0) Try.agg24 (by simp [eval_put_ne, eval_put_eq, size_put, hts, e3]) (((hS0).trans hU (fun _ _ h => h)).blk HA.out (fun h => h)) (by simp)) ?_
            have K0 := HK0
            have KW0 := Kept.refl (fun _ => False) w0
            refine oneCS 1 43 (by kernel_rfl) rfl rfl (wanted_none rfl) (r_call1 Try.func14 (by kernel_rfl) rfl rfl (by simp [eval_put_ne, eval_put_eq, size_put, hts])) ((right_at w0 ⟨ak, at_, an, ⟨aa, al, ac⟩, aw⟩ (HAr.out.kept K0.out)).mono (fun _ _ h => by rw [HRB.out] at h; exact h)) ?_
            rintro e v1 ⟨rfl, k1⟩
            refine ⟨_, rfl, k1, ?_⟩
            have KW1 : Kept (fun _ => False) w0 v1 := KW0.trans k1 (fun _ _ h => h)
            have K1 := hide (K0.out.trans k1 (fun _ _ h => h))
            refine raiseM (S' := Kept (fun _ => False) v1) (fun U hU => k1.trans hU (fun _ _ h => h)) ?_
            have hs1 : (Kept (fun _ => False) v1) _ := Kept.refl _ _
            refine oneCS 3 45 (by kernel_rfl) rfl rfl (wanted_none rfl) (r_call1 Try.func9 (by kernel_rfl) rfl rfl (by simp [eval_put_ne, eval_put_eq, size_put, hts])) (rright_at v1 ⟨ak, at_, an, ⟨aa, al, ac⟩, aw⟩ (HAr.out.kept K1.out) true HRB.out) ?_
            rintro e v2 ⟨rfl, k2⟩
            refine ⟨_, rfl, k2, ?_⟩
            have KW2 : Kept (fun _ => False) w0 v2 := KW1.trans k2 (fun _ _ h => h)
            have K2 := hide (K1.out.trans k2 (fun _ _ h => h))
            refine raiseM (S' := Kept (fun _ => False) v2) (fun U hU => k2.trans hU (fun _ _ h => h)) ?_
            have hs2 : (Kept (fun _ => False) v2) _ := Kept.refl _ _
            refine tkS 4 46 (v := .bool true) hs2 rfl rfl (by kernel_rfl) (by kernel_rfl) (by kernel_rfl) (by kernel_rfl) (wanted_none rfl) (fun _ _ _ h => h) (fun U hU => (r_eql4 (p := true) (q := true) (by simp [eval_put_ne, eval_put_eq, size_put, hts]) (by simp [eval_put_ne, eval_put_eq, size_put, hts])).trans (by rfl)) ?_
            refine tkS 5 47 (v := .bool true) hs2 rfl rfl (by kernel_rfl) (by kernel_rfl) (by kernel_rfl) (by kernel_rfl) (wanted_none rfl) (fun _ _ _ h => h) (fun U hU => r_move (by simp [eval_put_ne, eval_put_eq, size_put, hts])) ?_
            refine tkS 6 48 (v := .agg #[.int .i64 ak, .int .i64 at_, .int .i64 an, .slice aa al ac]) hs2 rfl rfl (by kernel_rfl) (by kernel_rfl) (by kernel_rfl) (by kernel_rfl) (wanted_some (j := 5) (d := 47) (bb := true) rfl rfl rfl (by simp [eval_put_ne, eval_put_eq, size_put, hts]) (by simp [size_put, hts])) (fun _ _ _ h => h) (fun U hU => run_load_agg (off := 0) Try.agg24 (by simp [eval_put_ne, eval_put_eq, size_put, hts, e3]) (((KW2).trans hU (fun _ _ h => h)).blk HA.out (fun h => h)) (by simp)) ?_
            refine tkS 9 51 (v := .string (strN Bs)) hs2 rfl rfl (by kernel_rfl) (by kernel_rfl) (by kernel_rfl) (by kernel_rfl) (wanted_some (j := 5) (d := 47) (bb := true) rfl rfl rfl (by simp [eval_put_ne, eval_put_eq, size_put, hts]) (by simp [size_put, hts])) (fun _ _ _ h => h) (fun U hU => r_move (by simp [eval_put_ne, eval_put_eq, size_put, hts, e7])) ?_
            refine oneCS 7 49 (by kernel_rfl) rfl rfl (wanted_some (j := 5) (d := 47) (bb := true) rfl rfl rfl (by simp [eval_put_ne, eval_put_eq, size_put, hts]) (by simp [size_put, hts])) (r_call1 Try.func15 (by kernel_rfl) rfl rfl (by simp [eval_put_ne, eval_put_eq, size_put, hts])) (put_at v2 ⟨ak, at_, an, ⟨aa, al, ac⟩, aw⟩ (HAr.out.kept K2.out)) ?_
            rintro e v3 ⟨⟨ta, tn, tc⟩, rfl, hsp0, k3⟩
            refine ⟨_, rfl, k3, ?_⟩
            have KW3 : Kept (fun _ => False) w0 v3 := KW2.trans k3 (fun _ _ h => h)
            have K3 := hide (K2.out.trans k3 (fun _ _ h => h))
            have hsp : Src v3 (.slice ta tn tc) Bs := by rw [← HPut.out]; exact hsp0
            have KP := Kept.refl (fun _ => False) v3
            refine raiseM (S' := Kept (fun _ => False) v3) (fun U hU => k3.trans hU (fun _ _ h => h)) ?_
            have hs3 : (Kept (fun _ => False) v3) _ := Kept.refl _ _
            refine tkS 8 50 (v := .string (strN Bs)) hs3 rfl rfl (by kernel_rfl) (by kernel_rfl) (by kernel_rfl) (by kernel_rfl) (wanted_some (j := 5) (d := 47) (bb := true) rfl rfl rfl (by simp [eval_put_ne, eval_put_eq, size_put, hts]) (by simp [size_put, hts])) (fun _ _ _ h => h) (fun U hU => r_strS (by simp [eval_put_ne, eval_put_eq, size_put, hts]) (hsp.kept ((KP).trans hU (fun _ _ h => h)))) ?_
            refine tkS 10 52 (v := .bool true) hs3 rfl rfl (by kernel_rfl) (by kernel_rfl) (by kernel_rfl) (by kernel_rfl) (wanted_some (j := 5) (d := 47) (bb := true) rfl rfl rfl (by simp [eval_put_ne, eval_put_eq, size_put, hts]) (by simp [size_put, hts])) (fun _ _ _ h => h) (fun U hU => (r_eql9 (p := strN Bs) (q := strN Bs) (by simp [eval_put_ne, eval_put_eq, size_put, hts]) (by simp [eval_put_ne, eval_put_eq, size_put, hts])).trans (by simp)) ?_
            refine tkS 11 53 (v := .bool true) hs3 rfl rfl (by kernel_rfl) (by kernel_rfl) (by kernel_rfl) (by kernel_rfl) (wanted_none rfl) (fun _ _ _ h => h) (fun U hU => r_pick (by simp [eval_put_ne, eval_put_eq, size_put, hts]) (by simp [eval_put_ne, eval_put_eq, size_put, hts])) ?_
            refine tkS 12 54 (v := .bool true) hs3 rfl rfl (by kernel_rfl) (by kernel_rfl) (by kernel_rfl) (by kernel_rfl) (wanted_none rfl) (fun _ _ _ h => h) (fun U hU => r_move (by simp [eval_put_ne, eval_put_eq, size_put, hts])) ?_
            refine tkS 13 55 (v := .agg #[.int .i64 ak, .int .i64 at_, .int .i64 an, .slice aa al ac]) hs3 rfl rfl (by kernel_rfl) (by kernel_rfl) (by kernel_rfl) (by kernel_rfl) (wanted_some (j := 12) (d := 54) (bb := true) rfl rfl rfl (by simp [eval_put_ne, eval_put_eq, size_put, hts]) (by simp [size_put, hts])) (fun _ _ _ h => h) (fun U hU => run_load_agg (off := 0) Try.agg24 (by simp [eval_put_ne, eval_put_eq, size_put, hts, e3]) (((KW3).trans hU (fun _ _ h => h)).blk HA.out (fun h => h)) (by simp)) ?_
            refine tkS 15 57 (v := .int .i64 (nS : Nat)) hs3 rfl rfl (by kernel_rfl) (by kernel_rfl) (by kernel_rfl) (by kernel_rfl) (wanted_some (j := 12) (d := 54) (bb := true) rfl rfl rfl (by simp [eval_put_ne, eval_put_eq, size_put, hts]) (by simp [size_put, hts])) (fun _ _ _ h => h) (fun U hU => r_move (by simp [eval_put_ne, eval_put_eq, size_put, hts, e8])) ?_
            refine oneCS 14 56 (by kernel_rfl) rfl rfl (wanted_some (j := 12) (d := 54) (bb := true) rfl rfl rfl (by simp [eval_put_ne, eval_put_eq, size_put, hts]) (by simp [size_put, hts])) (r_call1 Try.func16 (by kernel_rfl) rfl rfl (by simp [eval_put_ne, eval_put_eq, size_put, hts])) (rsect_at v3 ⟨ak, at_, an, ⟨aa, al, ac⟩, aw⟩ (HAr.out.kept K3.out) Bs HPut.out HBsl.out nS HSec.out) ?_
            rintro e v4 ⟨rfl, k4⟩
            refine ⟨_, rfl, k4, ?_⟩
            have KW4 : Kept (fun _ => False) w0 v4 := KW3.trans k4 (fun _ _ h => h)
            have K4 := hide (K3.out.trans k4 (fun _ _ h => h))
            replace KP := KP.trans k4 (fun _ _ h => h)
            refine raiseM (S' := Kept (fun _ => False) v4) (fun U hU => k4.trans hU (fun _ _ h => h)) ?_
            have hs4 : (Kept (fun _ => False) v4) _ := Kept.refl _ _
            refine tkS 16 58 (v := .bool true) hs4 rfl rfl (by kernel_rfl) (by kernel_rfl) (by kernel_rfl) (by kernel_rfl) (wanted_some (j := 12) (d := 54) (bb := true) rfl rfl rfl (by simp [eval_put_ne, eval_put_eq, size_put, hts]) (by simp [size_put, hts])) (fun _ _ _ h => h) (fun U hU => (r_eql3 (p := ((nS : Nat) : Int)) (q := ((nS : Nat) : Int)) (by simp [eval_put_ne, eval_put_eq, size_put, hts]) (by simp [eval_put_ne, eval_put_eq, size_put, hts])).trans (by simp)) ?_
            refine tkS 17 59 (v := .bool true) hs4 rfl rfl (by kernel_rfl) (by kernel_rfl) (by kernel_rfl) (by kernel_rfl) (wanted_none rfl) (fun _ _ _ h => h) (fun U hU => r_pick (by simp [eval_put_ne, eval_put_eq, size_put, hts]) (by simp [eval_put_ne, eval_put_eq, size_put, hts])) ?_
            refine tkS 18 60 (v := .bool true) hs4 rfl rfl (by kernel_rfl) (by kernel_rfl) (by kernel_rfl) (by kernel_rfl) (wanted_none rfl) (fun _ _ _ h => h) (fun U hU => r_move (by simp [eval_put_ne, eval_put_eq, size_put, hts])) ?_
            refine tkS 19 61 (v := .agg #[.int .i64 ak, .int .i64 at_, .int .i64 an, .slice aa al ac]) hs4 rfl rfl (by kernel_rfl) (by kernel_rfl) (by kernel_rfl) (by kernel_rfl) (wanted_some (j := 18) (d := 60) (bb := true) rfl rfl rfl (by simp [eval_put_ne, eval_put_eq, size_put, hts]) (by simp [size_put, hts])) (fun _ _ _ h => h) (fun U hU => run_load_agg (off := 0) Try.agg24 (by simp [eval_put_ne, eval_put_eq, size_put, hts, e3]) (((KW4).trans hU (fun _ _ h => h)).blk HA.out (fun h => h)) (by simp)) ?_
            refine tkS 20 62 (v := .agg #[.int .i64 ck, .int .i64 ct, .int .i64 cn, .slice ca cl cc]) hs4 rfl rfl (by kernel_rfl) (by kernel_rfl) (by kernel_rfl) (by kernel_rfl) (wanted_some (j := 18) (d := 60) (bb := true) rfl rfl rfl (by simp [eval_put_ne, eval_put_eq, size_put, hts]) (by simp [size_put, hts])) (fun _ _ _ h => h) (fun U hU => run_load_agg (off := 0) Try.agg24 (by simp [eval_put_ne, eval_put_eq, size_put, hts, e4]) (((KW4).trans hU (fun _ _ h => h)).blk HC.out (fun h => h)) (by simp)) ?_
            refine tkS 22 64 (v := .agg #[.int .i64 ak, .int .i64 at_, .int .i64 an, .slice aa al ac]) hs4 rfl rfl (by kernel_rfl) (by kernel_rfl) (by kernel_rfl) (by kernel_rfl) (wanted_some (j := 18) (d := 60) (bb := true) rfl rfl rfl (by simp [eval_put_ne, eval_put_eq, size_put, hts]) (by simp [size_put, hts])) (fun _ _ _ h => h) (fun U hU => run_load_agg (off := 0) Try.agg24 (by simp [eval_put_ne, eval_put_eq, size_put, hts, e3]) (((KW4).trans hU (fun _ _ h => h)).blk HA.out (fun h => h)) (by simp)) ?_
            refine tkS 23 65 (v := .agg #[.int .i64 ck, .int .i64 ct, .int .i64 cn, .slice ca cl cc]) hs4 rfl rfl (by kernel_rfl) (by kernel_rfl) (by kernel_rfl) (by kernel_rfl) (wanted_some (j := 18) (d := 60) (bb := true) rfl rfl rfl (by simp [eval_put_ne, eval_put_eq, size_put, hts]) (by simp [size_put, hts])) (fun _ _ _ h => h) (fun U hU => run_load_agg (off := 0) Try.agg24 (by simp [eval_put_ne, eval_put_eq, size_put, hts, e4]) (((KW4).trans hU (fun _ _ h => h)).blk HC.out (fun h => h)) (by simp)) ?_
            refine oneCS 21 63 (by kernel_rfl) rfl rfl (wanted_some (j := 18) (d := 60) (bb := true) rfl rfl rfl (by simp [eval_put_ne, eval_put_eq, size_put, hts]) (by simp [size_put, hts])) (r_call2 Try.func17 (by kernel_rfl) rfl rfl (by simp [eval_put_ne, eval_put_eq, size_put, hts]) (by simp [eval_put_ne, eval_put_eq, size_put, hts])) (rsame_at v4 ⟨ak, at_, an, ⟨aa, al, ac⟩, aw⟩ ⟨ck, ct, cn, ⟨ca, cl, cc⟩, cw⟩ (HAr.out.kept K4.out) (HCr.out.kept K4.out) sac HSac.out) ?_
            rintro e v5 ⟨rfl, k5⟩
            refine ⟨_, rfl, k5, ?_⟩
            have KW5 : Kept (fun _ => False) w0 v5 := KW4.trans k5 (fun _ _ h => h)
            have K5 := hide (K4.out.trans k5 (fun _ _ h => h))
            replace KP := KP.trans k5 (fun _ _ h => h)
            refine raiseM (S' := Kept (fun _ => False) v5) (fun U hU => k5.trans hU (fun _ _ h => h)) ?_
            have hs5 : (Kept (fun _ => False) v5) _ := Kept.refl _ _
            refine oneCS 24 66 (by kernel_rfl) rfl rfl (wanted_some (j := 18) (d := 60) (bb := true) rfl rfl rfl (by simp [eval_put_ne, eval_put_eq, size_put, hts]) (by simp [size_put, hts])) (r_call2 Try.func18 (by kernel_rfl) rfl rfl (by simp [eval_put_ne, eval_put_eq, size_put, hts]) (by simp [eval_put_ne, eval_put_eq, size_put, hts])) (refsame_at v5 ⟨ak, at_, an, ⟨aa, al, ac⟩, aw⟩ ⟨ck, ct, cn, ⟨ca, cl, cc⟩, cw⟩ (HAr.out.kept K5.out) (HCr.out.kept K5.out) sac HSac.out) ?_
            rintro e v6 ⟨rfl, k6⟩
            refine ⟨_, rfl, k6, ?_⟩
            have KW6 : Kept (fun _ => False) w0 v6 := KW5.trans k6 (fun _ _ h => h)
            have K6 := hide (K5.out.trans k6 (fun _ _ h => h))
            replace KP := KP.trans k6 (fun _ _ h => h)
            refine raiseM (S' := Kept (fun _ => False) v6) (fun U hU => k6.trans hU (fun _ _ h => h)) ?_
            have hs6 : (Kept (fun _ => False) v6) _ := Kept.refl _ _
            refine tkS 25 67 (v := .bool true) hs6 rfl rfl (by kernel_rfl) (by kernel_rfl) (by kernel_rfl) (by kernel_rfl) (wanted_some (j := 18) (d := 60) (bb := true) rfl rfl rfl (by simp [eval_put_ne, eval_put_eq, size_put, hts]) (by simp [size_put, hts])) (fun _ _ _ h => h) (fun U hU => (r_eql4 (p := sac) (q := sac) (by simp [eval_put_ne, eval_put_eq, size_put, hts]) (by simp [eval_put_ne, eval_put_eq, size_put, hts])).trans (by simp)) ?_
            refine tkS 26 68 (v := .bool true) hs6 rfl rfl (by kernel_rfl) (by kernel_rfl) (by kernel_rfl) (by kernel_rfl) (wanted_none rfl) (fun _ _ _ h => h) (fun U hU => r_pick (by simp [eval_put_ne, eval_put_eq, size_put, hts]) (by simp [eval_put_ne, eval_put_eq, size_put, hts])) ?_
            refine tkS 27 69 (v := .bool true) hs6 rfl rfl (by kernel_rfl) (by kernel_rfl) (by kernel_rfl) (by kernel_rfl) (wanted_none rfl) (fun _ _ _ h => h) (fun U hU => r_move (by simp [eval_put_ne, eval_put_eq, size_put, hts])) ?_
            refine tkS 28 70 (v := .agg #[.int .i64 xk, .int .i64 xt, .int .i64 xn, .slice xa xl xc]) hs6 rfl rfl (by kernel_rfl) (by kernel_rfl) (by kernel_rfl) (by kernel_rfl) (wanted_some (j := 27) (d := 69) (bb := true) rfl rfl rfl (by simp [eval_put_ne, eval_put_eq, size_put, hts]) (by simp [size_put, hts])) (fun _ _ _ h => h) (fun U hU => run_load_agg (off := 0) Try.agg24 (by simp [eval_put_ne, eval_put_eq, size_put, hts, e9]) (((KW6).trans hU (fun _ _ h => h)).blk HX.out (fun h => h)) (by simp)) ?_
            refine tkS 29 71 (v := .agg #[.int .i64 yk, .int .i64 yt, .int .i64 yn, .slice ya yl yc]) hs6 rfl rfl (by kernel_rfl) (by kernel_rfl) (by kernel_rfl) (by kernel_rfl) (wanted_some (j := 27) (d := 69) (bb := true) rfl rfl rfl (by simp [eval_put_ne, eval_put_eq, size_put, hts]) (by simp [size_put, hts])) (fun _ _ _ h => h) (fun U hU => run_load_agg (off := 0) Try.agg24 (by simp [eval_put_ne, eval_put_eq, size_put, hts, e11]) (((KW6).trans hU (fun _ _ h => h)).blk HY.out (fun h => h)) (by simp)) ?_
            refine oneCS 30 72 (by kernel_rfl) rfl rfl (wanted_some (j := 27) (d := 69) (bb := true) rfl rfl rfl (by simp [eval_put_ne, eval_put_eq, size_put, hts]) (by simp [size_put, hts])) (r_call2 Try.func18 (by kernel_rfl) rfl rfl (by simp [eval_put_ne, eval_put_eq, size_put, hts]) (by simp [eval_put_ne, eval_put_eq, size_put, hts])) (refsame_at v6 ⟨xk, xt, xn, ⟨xa, xl, xc⟩, xw⟩ ⟨yk, yt, yn, ⟨ya, yl, yc⟩, yw⟩ (HXr.out.kept KW6) (HYr.out.kept KW6) true HSxy.out) ?_
            rintro e v7 ⟨rfl, k7⟩
            refine ⟨_, rfl, k7, ?_⟩
            have KW7 : Kept (fun _ => False) w0 v7 := KW6.trans k7 (fun _ _ h => h)
            have K7 := hide (K6.out.trans k7 (fun _ _ h => h))
            replace KP := KP.trans k7 (fun _ _ h => h)
            refine raiseM (S' := Kept (fun _ => False) v7) (fun U hU => k7.trans hU (fun _ _ h => h)) ?_
            have hs7 : (Kept (fun _ => False) v7) _ := Kept.refl _ _
            refine tkS 31 73 (v := .bool true) hs7 rfl rfl (by kernel_rfl) (by kernel_rfl) (by kernel_rfl) (by kernel_rfl) (wanted_none rfl) (fun _ _ _ h => h) (fun U hU => r_pick (by simp [eval_put_ne, eval_put_eq, size_put, hts]) (by simp [eval_put_ne, eval_put_eq, size_put, hts])) ?_
            refine tkS 32 74 (v := .bool true) hs7 rfl rfl (by kernel_rfl) (by kernel_rfl) (by kernel_rfl) (by kernel_rfl) (wanted_none rfl) (fun _ _ _ h => h) (fun U hU => r_move (by simp [eval_put_ne, eval_put_eq, size_put, hts])) ?_
            refine tkS 33 75 (v := .int .i64 20) hs7 rfl rfl (by kernel_rfl) (by kernel_rfl) (by kernel_rfl) (by kernel_rfl) (wanted_some (j := 32) (d := 74) (bb := true) rfl rfl rfl (by simp [eval_put_ne, eval_put_eq, size_put, hts]) (by simp [size_put, hts])) (fun _ _ _ h => h) (fun U hU => r_move (by simp [eval_put_ne, eval_put_eq, size_put, hts, e10])) ?_
            refine tkS 34 76 (v := .bool false) hs7 rfl rfl (by kernel_rfl) (by kernel_rfl) (by kernel_rfl) (by kernel_rfl) (wanted_some (j := 32) (d := 74) (bb := true) rfl rfl rfl (by simp [eval_put_ne, eval_put_eq, size_put, hts]) (by simp [size_put, hts])) (fun _ _ _ h => h) (fun U hU => (r_eql30 (p := 20) (q := 0) (by simp [eval_put_ne, eval_put_eq, size_put, hts]) rfl).trans (by rfl)) ?_
            refine tkS 35 77 (v := .bool false) hs7 rfl rfl (by kernel_rfl) (by kernel_rfl) (by kernel_rfl) (by kernel_rfl) (wanted_some (j := 32) (d := 74) (bb := true) rfl rfl rfl (by simp [eval_put_ne, eval_put_eq, size_put, hts]) (by simp [size_put, hts])) (fun _ _ _ h => h) (fun U hU => r_move (by simp [eval_put_ne, eval_put_eq, size_put, hts, e12])) ?_
            refine tkS 36 78 (v := .bool true) hs7 rfl rfl (by kernel_rfl) (by kernel_rfl) (by kernel_rfl) (by kernel_rfl) (wanted_some (j := 32) (d := 74) (bb := true) rfl rfl rfl (by simp [eval_put_ne, eval_put_eq, size_put, hts]) (by simp [size_put, hts])) (fun _ _ _ h => h) (fun U hU => (r_eql4 (p := false) (q := false) (by simp [eval_put_ne, eval_put_eq, size_put, hts]) (by simp [eval_put_ne, eval_put_eq, size_put, hts])).trans (by rfl)) ?_
            refine tkS 37 79 (v := .bool true) hs7 rfl rfl (by kernel_rfl) (by kernel_rfl) (by kernel_rfl) (by kernel_rfl) (wanted_none rfl) (fun _ _ _ h => h) (fun U hU => r_pick (by simp [eval_put_ne, eval_put_eq, size_put, hts]) (by simp [eval_put_ne, eval_put_eq, size_put, hts])) ?_
            refine tkS 38 80 (v := .bool true) hs7 rfl rfl (by kernel_rfl) (by kernel_rfl) (by kernel_rfl) (by kernel_rfl) (wanted_none rfl) (fun _ _ _ h => h) (fun U hU => r_move (by simp [eval_put_ne, eval_put_eq, size_put, hts])) ?_
            refine tkS 39 81 (v := .bool false) hs7 rfl rfl (by kernel_rfl) (by kernel_rfl) (by kernel_rfl) (by kernel_rfl) (wanted_some (j := 38) (d := 80) (bb := true) rfl rfl rfl (by simp [eval_put_ne, eval_put_eq, size_put, hts]) (by simp [size_put, hts])) (fun _ _ _ h => h) (fun U hU => r_move (by simp [eval_put_ne, eval_put_eq, size_put, hts, e12])) ?_
            refine tkS 40 82 (v := .bool false) hs7 rfl rfl (by kernel_rfl) (by kernel_rfl) (by kernel_rfl) (by kernel_rfl) (wanted_some (j := 38) (d := 80) (bb := true) rfl rfl rfl (by simp [eval_put_ne, eval_put_eq, size_put, hts]) (by simp [size_put, hts])) (fun _ _ _ h => h) (fun U hU => r_move (by simp [eval_put_ne, eval_put_eq, size_put, hts])) ?_
            refine tkS 41 83 (v := .int .i64 20) hs7 rfl rfl (by kernel_rfl) (by kernel_rfl) (by kernel_rfl) (by kernel_rfl) (wanted_some (j := 40) (d := 82) (bb := false) rfl rfl rfl (by simp [eval_put_ne, eval_put_eq, size_put, hts]) (by simp [size_put, hts])) (fun _ _ _ h => h) (fun U hU => r_move (by simp [eval_put_ne, eval_put_eq, size_put, hts, e10])) ?_
            refine tkS 42 84 (v := .bool true) hs7 rfl rfl (by kernel_rfl) (by kernel_rfl) (by kernel_rfl) (by kernel_rfl) (wanted_some (j := 40) (d := 82) (bb := false) rfl rfl rfl (by simp [eval_put_ne, eval_put_eq, size_put, hts]) (by simp [size_put, hts])) (fun _ _ _ h => h) (fun U hU => (r_eql30 (p := 20) (q := 20) (by simp [eval_put_ne, eval_put_eq, size_put, hts]) rfl).trans (by rfl)) ?_
            refine tkS 43 85 (v := .bool true) hs7 rfl rfl (by kernel_rfl) (by kernel_rfl) (by kernel_rfl) (by kernel_rfl) (wanted_some (j := 38) (d := 80) (bb := true) rfl rfl rfl (by simp [eval_put_ne, eval_put_eq, size_put, hts]) (by simp [size_put, hts])) (fun _ _ _ h => h) (fun U hU => r_pickF (by simp [eval_put_ne, eval_put_eq, size_put, hts]) (by simp [eval_put_ne, eval_put_eq, size_put, hts])) ?_
            refine tkS 44 86 (v := .bool true) hs7 rfl rfl (by kernel_rfl) (by kernel_rfl) (by kernel_rfl) (by kernel_rfl) (wanted_none rfl) (fun _ _ _ h => h) (fun U hU => r_pick (by simp [eval_put_ne, eval_put_eq, size_put, hts]) (by simp [eval_put_ne, eval_put_eq, size_put, hts])) ?_
            refine tkS 45 6 (v := .bool true) hs7 rfl rfl (by kernel_rfl) (by kernel_rfl) (by kernel_rfl) (by kernel_rfl) (wanted_none rfl) (fun _ _ _ h => h) (fun U hU => r_assign (by simp [eval_put_ne, eval_put_eq, size_put, hts])) ?_
            refine doneS (by kernel_rfl) ?_
            rw [hfr.out]
            clear hfr e3 e4 e7 e8 e9 e10 e11 e12 hts
            simp only [put_lit, put_none, List.set_cons_succ, List.set_cons_zero]
            have HKF := hide K7.out
            clear hS0 hs1 hs2 hs3 hs4 hs5 hs6 hs7 hkw hheap KW0 KW1 KW2 KW3 KW4 KW5 KW6 KW7 KP k1 k2 k3 k4 k5 k6 k7
            go_wp2
            go_ret
            exact ⟨rfl, HKF.out⟩
        | false =>
          have HPut : Hid (putRN (Rv.rc ⟨ak, at_, an, ⟨aa, al, ac⟩, aw⟩) = []) := hide (by unfold putRN; rw [HRB.out]; rfl)
          have HBsl : Hid (([] : List Nat).length ≤ 10000) := hide (by decide)
          have HSec : Hid ((if ([] : List Nat).length = 0 then 0 else sectN ([] : List Nat).length) = 0) := hide rfl
          have HSV := hide (HS.out.kept HKr.out)
          go_wp2_with fail
          refine (get_at w6 v B HSV.out (by omega)).mono ?_
          rintro e g1 ⟨x, ec, rfl, hgx, hkg1⟩
          obtain ⟨xk, xt, xn, ⟨xa, xl, xc⟩, xw⟩ := x
          have HGX := hide hgx
          have HBa1 := hide (hkg1.blk HBa.out (fun h => h))
          have HBc1 := hide (hkg1.blk HBc.out (fun h => h))
          have HK1' := hide (HKr.out.trans hkg1 (fun _ _ h => h))
          clear hgx hkg1 HSV HBa HBc HKr
          simp only [Rv.agg, rAgg]
          go_wp2_with (first
            | ((with_reducible refine aw_alloc (dst := some 9) Hi24.out Hz24.out ?_); intro g2 hb2 hk2 hz2; have Yz2 := hide hz2; clear hz2)
            | ((with_reducible refine aw_store (x := .tmp 9) (M := [.int .i64 xk, .int .i64 xt, .int .i64 xn, .slice xa xl xc]) Try.agg24 rfl rfl rfl (by simp [Value.oneCell']) hb2 (by simp [Value.cells]) ?_); intro g3 hb3 hk3 hz3; clear hz3; rw [put_whole _ _ (by simp [Value.cells])] at hb3; have hk13 : Kept (fun _ => False) g1 g3 := hk2.trans hk3 (fun i hi h => by omega); have HK3' := hide (HK1'.out.trans hk13 (fun _ _ h => h)); have HSV3 := hide (HS.out.kept HK3'.out); have hgx3 := HGX.out.1.kept hk13)
            | fail)
          obtain ⟨bx, hbx⟩ : ∃ b, b = g1.heap.size := ⟨_, rfl⟩
          rw [← hbx] at hb3 ⊢
          have HBx3 : Hid (Blk g3 bx [.int .i64 xk, .int .i64 xt, .int .i64 xn, .slice xa xl xc] 24) := hide hb3
          have HXr3 : Hid (RcAt g3 ⟨xk, xt, xn, ⟨xa, xl, xc⟩, xw⟩) := hide hgx3
          have HGX2 := hide HGX.out.2
          have HBa3 := hide (hk13.blk HBa1.out (fun h => h))
          have HBc3 := hide (hk13.blk HBc1.out (fun h => h))
          clear hb2 hb3 hk2 hk3 hk13 hbx Yz2 HGX hgx3 HBa1 HBc1 HK1'
          go_wp2_with fail
          refine (rrget_at g3 v B HSV3.out (by omega)).mono ?_
          rintro e g4 ⟨y, ok, rfl, hgy, hkg4⟩
          obtain ⟨yk, yt, yn, ⟨ya, yl, yc⟩, yw⟩ := y
          have HGY := hide hgy
          have HBa4 := hide (hkg4.blk HBa3.out (fun h => h))
          have HBc4 := hide (hkg4.blk HBc3.out (fun h => h))
          have HBx4 := hide (hkg4.blk HBx3.out (fun h => h))
          have HXr4 := hide (HXr3.out.kept hkg4)
          have HK4' := hide (HK3'.out.trans hkg4 (fun _ _ h => h))
          clear hgy hkg4 HBa3 HBc3 HBx3 HXr3 HK3' HSV3
          simp only [Rv.agg, rAgg]
          cases ok with
          | true =>
            have hec : ec = 0 ∧ Rv.rc ⟨xk, xt, xn, ⟨xa, xl, xc⟩, xw⟩ = Rv.rc ⟨yk, yt, yn, ⟨ya, yl, yc⟩, yw⟩ := by
              rcases HGX2.out with ⟨p1, p2⟩ | ⟨p1, p2, p3⟩ <;> rcases HGY.out.2 with ⟨q1, q2⟩ | ⟨q1, q2, q3⟩
              · first | exact ⟨p2, Option.some.inj (p1.symm.trans q1)⟩ | cases q2
              · rw [p1] at q1; cases q1
              · rw [p1] at q1; cases q1
              · first | exact ⟨p2, p3.trans q3.symm⟩ | cases q2
            have HSxy : Hid (sameR ⟨xk, xt, xn, ⟨xa, xl, xc⟩, xw⟩ ⟨yk, yt, yn, ⟨ya, yl, yc⟩, yw⟩ = true) := hide ((sameR_iff _ _).2 hec.2)
            obtain ⟨rfl, -⟩ := hec
            go_wp2_with (first
              | ((with_reducible refine aw_alloc (dst := some 11) Hi24.out Hz24.out ?_); intro g5 hb5 hk5 hz5; have Yz5 := hide hz5; clear hz5)
              | ((with_reducible refine aw_store (x := .tmp 11) (M := [.int .i64 yk, .int .i64 yt, .int .i64 yn, .slice ya yl yc]) Try.agg24 rfl rfl rfl (by simp [Value.oneCell']) hb5 (by simp [Value.cells]) ?_); intro g6 hb6 hk6 hz6; clear hz6; rw [put_whole _ _ (by simp [Value.cells])] at hb6; have hk46 : Kept (fun _ => False) g4 g6 := hk5.trans hk6 (fun i hi h => by omega); have HK9 := hide (HK4'.out.trans hk46 (fun _ _ h => h)); have HYr9 : Hid (RcAt g6 ⟨yk, yt, yn, ⟨ya, yl, yc⟩, yw⟩) := hide (HGY.out.1.kept hk46))
              | fail)
            obtain ⟨by_, hby⟩ : ∃ b, b = g4.heap.size := ⟨_, rfl⟩
            rw [← hby] at hb6 ⊢
            have HBy9 : Hid (Blk g6 by_ [.int .i64 yk, .int .i64 yt, .int .i64 yn, .slice ya yl yc] 24) := hide hb6
            have HBa9 := hide (hk46.blk HBa4.out (fun h => h))
            have HBc9 := hide (hk46.blk HBc4.out (fun h => h))
            have HBx9 := hide (hk46.blk HBx4.out (fun h => h))
            have HXr9 := hide (HXr4.out.kept hk46)
            clear hb5 hb6 hk5 hk6 hk46 hby Yz5 HGY HGX2 HBa4 HBc4 HBx4 HXr4 HK4'
            try go_wp2
            refine hold_frame (p := fun fr => Code.wp Try.prog _ _ fr _) ?_
            intro fr hfr
            have e3 : fr.eval (.tmp 3) = .pointer (some ⟨ba, 0, none⟩) := by rw [hfr.out]; rfl
            have e4 : fr.eval (.tmp 4) = .pointer (some ⟨bc, 0, none⟩) := by rw [hfr.out]; rfl
            have e7 : fr.eval (.tmp 7) = .string (strN []) := by rw [hfr.out]; rfl
            have e8 : fr.eval (.tmp 8) = .int .i64 (0 : Nat) := by rw [hfr.out]; rfl
            have e9 : fr.eval (.tmp 9) = .pointer (some ⟨bx, 0, none⟩) := by rw [hfr.out]; rfl
            have e10 : fr.eval (.tmp 10) = .int .i64 0 := by rw [hfr.out]; rfl
            have e11 : fr.eval (.tmp 11) = .pointer (some ⟨by_, 0, none⟩) := by rw [hfr.out]; rfl
            have e12 : fr.eval (.tmp 12) = .bool true := by rw [hfr.out]; rfl
            have hts : fr.tmps.size = 87 := by rw [hfr.out]; rfl
            refine region_S0 99 Try.mixed ?_
            intro w0 hkw hheap
            have HA := hide (hkw.blk HBa9.out (fun h => h))
            have HC := hide (hkw.blk HBc9.out (fun h => h))
            have HX := hide (hkw.blk HBx9.out (fun h => h))
            have HY := hide (hkw.blk HBy9.out (fun h => h))
            have HK0 := hide (HK9.out.trans hkw (fun _ _ h => h))
            have HXr := hide (HXr9.out.kept hkw)
            have HYr := hide (HYr9.out.kept hkw)
            have hS0 : Kept (fun _ => False) w0 w0 := Kept.refl (fun _ => False) w0
            refine ⟨Kept (fun _ => False) w0, ?_⟩
            refine tkS 0 42 (v := .agg #[.int .i64 ak, .int .i64 at_, .int .i64 an, .slice aa al ac]) hS0 rfl rfl (by kernel_rfl) (by kernel_rfl) (by kernel_rfl) (by kernel_rfl) (wanted_none rfl) (fun _ _ _ h => h) (fun U hU => run_load_agg (off := 0) Try.agg24 (by simp [eval_put_ne, eval_put_eq, size_put, hts, e3]) (((hS0).trans hU (fun _ _ h => h)).blk HA.out (fun h => h)) (by simp)) ?_
            refine tkS 2 44 (v := .agg #[.int .i64 ak, .int .i64 at_, .int .i64 an, .slice aa al ac]) hS0 rfl rfl (by kernel_rfl) (by kernel_rfl) (by kernel_rfl) (by kernel_rfl) (wanted_none rfl) (fun _ _ _ h => h) (fun U hU => run_load_agg (off := 0) Try.agg24 (by simp [eval_put_ne, eval_put_eq, size_put, hts, e3]) (((hS0).trans hU (fun _ _ h => h)).blk HA.out (fun h => h)) (by simp)) ?_
            have K0 := HK0
            have KW0 := Kept.refl (fun _ => False) w0
            refine oneCS 1 43 (by kernel_rfl) rfl rfl (wanted_none rfl) (r_call1 Try.func14 (by kernel_rfl) rfl rfl (by simp [eval_put_ne, eval_put_eq, size_put, hts])) ((right_at w0 ⟨ak, at_, an, ⟨aa, al, ac⟩, aw⟩ (HAr.out.kept K0.out)).mono (fun _ _ h => by rw [HRB.out] at h; exact h)) ?_
            rintro e v1 ⟨rfl, k1⟩
            refine ⟨_, rfl, k1, ?_⟩
            have KW1 : Kept (fun _ => False) w0 v1 := KW0.trans k1 (fun _ _ h => h)
            have K1 := hide (K0.out.trans k1 (fun _ _ h => h))
            refine raiseM (S' := Kept (fun _ => False) v1) (fun U hU => k1.trans hU (fun _ _ h => h)) ?_
            have hs1 : (Kept (fun _ => False) v1) _ := Kept.refl _ _
            refine oneCS 3 45 (by kernel_rfl) rfl rfl (wanted_none rfl) (r_call1 Try.func9 (by kernel_rfl) rfl rfl (by simp [eval_put_ne, eval_put_eq, size_put, hts])) (rright_at v1 ⟨ak, at_, an, ⟨aa, al, ac⟩, aw⟩ (HAr.out.kept K1.out) false HRB.out) ?_
            rintro e v2 ⟨rfl, k2⟩
            refine ⟨_, rfl, k2, ?_⟩
            have KW2 : Kept (fun _ => False) w0 v2 := KW1.trans k2 (fun _ _ h => h)
            have K2 := hide (K1.out.trans k2 (fun _ _ h => h))
            refine raiseM (S' := Kept (fun _ => False) v2) (fun U hU => k2.trans hU (fun _ _ h => h)) ?_
            have hs2 : (Kept (fun _ => False) v2) _ := Kept.refl _ _
            refine tkS 4 46 (v := .bool true) hs2 rfl rfl (by kernel_rfl) (by kernel_rfl) (by kernel_rfl) (by kernel_rfl) (wanted_none rfl) (fun _ _ _ h => h) (fun U hU => (r_eql4 (p := false) (q := false) (by simp [eval_put_ne, eval_put_eq, size_put, hts]) (by simp [eval_put_ne, eval_put_eq, size_put, hts])).trans (by rfl)) ?_
            refine tkS 5 47 (v := .bool true) hs2 rfl rfl (by kernel_rfl) (by kernel_rfl) (by kernel_rfl) (by kernel_rfl) (wanted_none rfl) (fun _ _ _ h => h) (fun U hU => r_move (by simp [eval_put_ne, eval_put_eq, size_put, hts])) ?_
            refine tkS 6 48 (v := .agg #[.int .i64 ak, .int .i64 at_, .int .i64 an, .slice aa al ac]) hs2 rfl rfl (by kernel_rfl) (by kernel_rfl) (by kernel_rfl) (by kernel_rfl) (wanted_some (j := 5) (d := 47) (bb := true) rfl rfl rfl (by simp [eval_put_ne, eval_put_eq, size_put, hts]) (by simp [size_put, hts])) (fun _ _ _ h => h) (fun U hU => run_load_agg (off := 0) Try.agg24 (by simp [eval_put_ne, eval_put_eq, size_put, hts, e3]) (((KW2).trans hU (fun _ _ h => h)).blk HA.out (fun h => h)) (by simp)) ?_
            refine tkS 9 51 (v := .string (strN [])) hs2 rfl rfl (by kernel_rfl) (by kernel_rfl) (by kernel_rfl) (by kernel_rfl) (wanted_some (j := 5) (d := 47) (bb := true) rfl rfl rfl (by simp [eval_put_ne, eval_put_eq, size_put, hts]) (by simp [size_put, hts])) (fun _ _ _ h => h) (fun U hU => r_move (by simp [eval_put_ne, eval_put_eq, size_put, hts, e7])) ?_
            refine oneCS 7 49 (by kernel_rfl) rfl rfl (wanted_some (j := 5) (d := 47) (bb := true) rfl rfl rfl (by simp [eval_put_ne, eval_put_eq, size_put, hts]) (by simp [size_put, hts])) (r_call1 Try.func15 (by kernel_rfl) rfl rfl (by simp [eval_put_ne, eval_put_eq, size_put, hts])) (put_at v2 ⟨ak, at_, an, ⟨aa, al, ac⟩, aw⟩ (HAr.out.kept K2.out)) ?_
            rintro e v3 ⟨⟨ta, tn, tc⟩, rfl, hsp0, k3⟩
            refine ⟨_, rfl, k3, ?_⟩
            have KW3 : Kept (fun _ => False) w0 v3 := KW2.trans k3 (fun _ _ h => h)
            have K3 := hide (K2.out.trans k3 (fun _ _ h => h))
            have hsp : Src v3 (.slice ta tn tc) [] := by rw [← HPut.out]; exact hsp0
            have KP := Kept.refl (fun _ => False) v3
            refine raiseM (S' := Kept (fun _ => False) v3) (fun U hU => k3.trans hU (fun _ _ h => h)) ?_
            have hs3 : (Kept (fun _ => False) v3) _ := Kept.refl _ _
            refine tkS 8 50 (v := .string (strN [])) hs3 rfl rfl (by kernel_rfl) (by kernel_rfl) (by kernel_rfl) (by kernel_rfl) (wanted_some (j := 5) (d := 47) (bb := true) rfl rfl rfl (by simp [eval_put_ne, eval_put_eq, size_put, hts]) (by simp [size_put, hts])) (fun _ _ _ h => h) (fun U hU => r_strS (by simp [eval_put_ne, eval_put_eq, size_put, hts]) (hsp.kept ((KP).trans hU (fun _ _ h => h)))) ?_
            refine tkS 10 52 (v := .bool true) hs3 rfl rfl (by kernel_rfl) (by kernel_rfl) (by kernel_rfl) (by kernel_rfl) (wanted_some (j := 5) (d := 47) (bb := true) rfl rfl rfl (by simp [eval_put_ne, eval_put_eq, size_put, hts]) (by simp [size_put, hts])) (fun _ _ _ h => h) (fun U hU => (r_eql9 (p := strN []) (q := strN []) (by simp [eval_put_ne, eval_put_eq, size_put, hts]) (by simp [eval_put_ne, eval_put_eq, size_put, hts])).trans (by simp)) ?_
            refine tkS 11 53 (v := .bool true) hs3 rfl rfl (by kernel_rfl) (by kernel_rfl) (by kernel_rfl) (by kernel_rfl) (wanted_none rfl) (fun _ _ _ h => h) (fun U hU => r_pick (by simp [eval_put_ne, eval_put_eq, size_put, hts]) (by simp [eval_put_ne, eval_put_eq, size_put, hts])) ?_
            refine tkS 12 54 (v := .bool true) hs3 rfl rfl (by kernel_rfl) (by kernel_rfl) (by kernel_rfl) (by kernel_rfl) (wanted_none rfl) (fun _ _ _ h => h) (fun U hU => r_move (by simp [eval_put_ne, eval_put_eq, size_put, hts])) ?_
            refine tkS 13 55 (v := .agg #[.int .i64 ak, .int .i64 at_, .int .i64 an, .slice aa al ac]) hs3 rfl rfl (by kernel_rfl) (by kernel_rfl) (by kernel_rfl) (by kernel_rfl) (wanted_some (j := 12) (d := 54) (bb := true) rfl rfl rfl (by simp [eval_put_ne, eval_put_eq, size_put, hts]) (by simp [size_put, hts])) (fun _ _ _ h => h) (fun U hU => run_load_agg (off := 0) Try.agg24 (by simp [eval_put_ne, eval_put_eq, size_put, hts, e3]) (((KW3).trans hU (fun _ _ h => h)).blk HA.out (fun h => h)) (by simp)) ?_
            refine tkS 15 57 (v := .int .i64 (0 : Nat)) hs3 rfl rfl (by kernel_rfl) (by kernel_rfl) (by kernel_rfl) (by kernel_rfl) (wanted_some (j := 12) (d := 54) (bb := true) rfl rfl rfl (by simp [eval_put_ne, eval_put_eq, size_put, hts]) (by simp [size_put, hts])) (fun _ _ _ h => h) (fun U hU => r_move (by simp [eval_put_ne, eval_put_eq, size_put, hts, e8])) ?_
            refine oneCS 14 56 (by kernel_rfl) rfl rfl (wanted_some (j := 12) (d := 54) (bb := true) rfl rfl rfl (by simp [eval_put_ne, eval_put_eq, size_put, hts]) (by simp [size_put, hts])) (r_call1 Try.func16 (by kernel_rfl) rfl rfl (by simp [eval_put_ne, eval_put_eq, size_put, hts])) (rsect_at v3 ⟨ak, at_, an, ⟨aa, al, ac⟩, aw⟩ (HAr.out.kept K3.out) [] HPut.out HBsl.out 0 HSec.out) ?_
            rintro e v4 ⟨rfl, k4⟩
            refine ⟨_, rfl, k4, ?_⟩
            have KW4 : Kept (fun _ => False) w0 v4 := KW3.trans k4 (fun _ _ h => h)
            have K4 := hide (K3.out.trans k4 (fun _ _ h => h))
            replace KP := KP.trans k4 (fun _ _ h => h)
            refine raiseM (S' := Kept (fun _ => False) v4) (fun U hU => k4.trans hU (fun _ _ h => h)) ?_
            have hs4 : (Kept (fun _ => False) v4) _ := Kept.refl _ _
            refine tkS 16 58 (v := .bool true) hs4 rfl rfl (by kernel_rfl) (by kernel_rfl) (by kernel_rfl) (by kernel_rfl) (wanted_some (j := 12) (d := 54) (bb := true) rfl rfl rfl (by simp [eval_put_ne, eval_put_eq, size_put, hts]) (by simp [size_put, hts])) (fun _ _ _ h => h) (fun U hU => (r_eql3 (p := ((0 : Nat) : Int)) (q := ((0 : Nat) : Int)) (by simp [eval_put_ne, eval_put_eq, size_put, hts]) (by simp [eval_put_ne, eval_put_eq, size_put, hts])).trans (by simp)) ?_
            refine tkS 17 59 (v := .bool true) hs4 rfl rfl (by kernel_rfl) (by kernel_rfl) (by kernel_rfl) (by kernel_rfl) (wanted_none rfl) (fun _ _ _ h => h) (fun U hU => r_pick (by simp [eval_put_ne, eval_put_eq, size_put, hts]) (by simp [eval_put_ne, eval_put_eq, size_put, hts])) ?_
            refine tkS 18 60 (v := .bool true) hs4 rfl rfl (by kernel_rfl) (by kernel_rfl) (by kernel_rfl) (by kernel_rfl) (wanted_none rfl) (fun _ _ _ h => h) (fun U hU => r_move (by simp [eval_put_ne, eval_put_eq, size_put, hts])) ?_
            refine tkS 19 61 (v := .agg #[.int .i64 ak, .int .i64 at_, .int .i64 an, .slice aa al ac]) hs4 rfl rfl (by kernel_rfl) (by kernel_rfl) (by kernel_rfl) (by kernel_rfl) (wanted_some (j := 18) (d := 60) (bb := true) rfl rfl rfl (by simp [eval_put_ne, eval_put_eq, size_put, hts]) (by simp [size_put, hts])) (fun _ _ _ h => h) (fun U hU => run_load_agg (off := 0) Try.agg24 (by simp [eval_put_ne, eval_put_eq, size_put, hts, e3]) (((KW4).trans hU (fun _ _ h => h)).blk HA.out (fun h => h)) (by simp)) ?_
            refine tkS 20 62 (v := .agg #[.int .i64 ck, .int .i64 ct, .int .i64 cn, .slice ca cl cc]) hs4 rfl rfl (by kernel_rfl) (by kernel_rfl) (by kernel_rfl) (by kernel_rfl) (wanted_some (j := 18) (d := 60) (bb := true) rfl rfl rfl (by simp [eval_put_ne, eval_put_eq, size_put, hts]) (by simp [size_put, hts])) (fun _ _ _ h => h) (fun U hU => run_load_agg (off := 0) Try.agg24 (by simp [eval_put_ne, eval_put_eq, size_put, hts, e4]) (((KW4).trans hU (fun _ _ h => h)).blk HC.out (fun h => h)) (by simp)) ?_
            refine tkS 22 64 (v := .agg #[.int .i64 ak, .int .i64 at_, .int .i64 an, .slice aa al ac]) hs4 rfl rfl (by kernel_rfl) (by kernel_rfl) (by kernel_rfl) (by kernel_rfl) (wanted_some (j := 18) (d := 60) (bb := true) rfl rfl rfl (by simp [eval_put_ne, eval_put_eq, size_put, hts]) (by simp [size_put, hts])) (fun _ _ _ h => h) (fun U hU => run_load_agg (off := 0) Try.agg24 (by simp [eval_put_ne, eval_put_eq, size_put, hts, e3]) (((KW4).trans hU (fun _ _ h => h)).blk HA.out (fun h => h)) (by simp)) ?_
            refine tkS 23 65 (v := .agg #[.int .i64 ck, .int .i64 ct, .int .i64 cn, .slice ca cl cc]) hs4 rfl rfl (by kernel_rfl) (by kernel_rfl) (by kernel_rfl) (by kernel_rfl) (wanted_some (j := 18) (d := 60) (bb := true) rfl rfl rfl (by simp [eval_put_ne, eval_put_eq, size_put, hts]) (by simp [size_put, hts])) (fun _ _ _ h => h) (fun U hU => run_load_agg (off := 0) Try.agg24 (by simp [eval_put_ne, eval_put_eq, size_put, hts, e4]) (((KW4).trans hU (fun _ _ h => h)).blk HC.out (fun h => h)) (by simp)) ?_
            refine oneCS 21 63 (by kernel_rfl) rfl rfl (wanted_some (j := 18) (d := 60) (bb := true) rfl rfl rfl (by simp [eval_put_ne, eval_put_eq, size_put, hts]) (by simp [size_put, hts])) (r_call2 Try.func17 (by kernel_rfl) rfl rfl (by simp [eval_put_ne, eval_put_eq, size_put, hts]) (by simp [eval_put_ne, eval_put_eq, size_put, hts])) (rsame_at v4 ⟨ak, at_, an, ⟨aa, al, ac⟩, aw⟩ ⟨ck, ct, cn, ⟨ca, cl, cc⟩, cw⟩ (HAr.out.kept K4.out) (HCr.out.kept K4.out) sac HSac.out) ?_
            rintro e v5 ⟨rfl, k5⟩
            refine ⟨_, rfl, k5, ?_⟩
            have KW5 : Kept (fun _ => False) w0 v5 := KW4.trans k5 (fun _ _ h => h)
            have K5 := hide (K4.out.trans k5 (fun _ _ h => h))
            replace KP := KP.trans k5 (fun _ _ h => h)
            refine raiseM (S' := Kept (fun _ => False) v5) (fun U hU => k5.trans hU (fun _ _ h => h)) ?_
            have hs5 : (Kept (fun _ => False) v5) _ := Kept.refl _ _
            refine oneCS 24 66 (by kernel_rfl) rfl rfl (wanted_some (j := 18) (d := 60) (bb := true) rfl rfl rfl (by simp [eval_put_ne, eval_put_eq, size_put, hts]) (by simp [size_put, hts])) (r_call2 Try.func18 (by kernel_rfl) rfl rfl (by simp [eval_put_ne, eval_put_eq, size_put, hts]) (by simp [eval_put_ne, eval_put_eq, size_put, hts])) (refsame_at v5 ⟨ak, at_, an, ⟨aa, al, ac⟩, aw⟩ ⟨ck, ct, cn, ⟨ca, cl, cc⟩, cw⟩ (HAr.out.kept K5.out) (HCr.out.kept K5.out) sac HSac.out) ?_
            rintro e v6 ⟨rfl, k6⟩
            refine ⟨_, rfl, k6, ?_⟩
            have KW6 : Kept (fun _ => False) w0 v6 := KW5.trans k6 (fun _ _ h => h)
            have K6 := hide (K5.out.trans k6 (fun _ _ h => h))
            replace KP := KP.trans k6 (fun _ _ h => h)
            refine raiseM (S' := Kept (fun _ => False) v6) (fun U hU => k6.trans hU (fun _ _ h => h)) ?_
            have hs6 : (Kept (fun _ => False) v6) _ := Kept.refl _ _
            refine tkS 25 67 (v := .bool true) hs6 rfl rfl (by kernel_rfl) (by kernel_rfl) (by kernel_rfl) (by kernel_rfl) (wanted_some (j := 18) (d := 60) (bb := true) rfl rfl rfl (by simp [eval_put_ne, eval_put_eq, size_put, hts]) (by simp [size_put, hts])) (fun _ _ _ h => h) (fun U hU => (r_eql4 (p := sac) (q := sac) (by simp [eval_put_ne, eval_put_eq, size_put, hts]) (by simp [eval_put_ne, eval_put_eq, size_put, hts])).trans (by simp)) ?_
            refine tkS 26 68 (v := .bool true) hs6 rfl rfl (by kernel_rfl) (by kernel_rfl) (by kernel_rfl) (by kernel_rfl) (wanted_none rfl) (fun _ _ _ h => h) (fun U hU => r_pick (by simp [eval_put_ne, eval_put_eq, size_put, hts]) (by simp [eval_put_ne, eval_put_eq, size_put, hts])) ?_
            refine tkS 27 69 (v := .bool true) hs6 rfl rfl (by kernel_rfl) (by kernel_rfl) (by kernel_rfl) (by kernel_rfl) (wanted_none rfl) (fun _ _ _ h => h) (fun U hU => r_move (by simp [eval_put_ne, eval_put_eq, size_put, hts])) ?_
            refine tkS 28 70 (v := .agg #[.int .i64 xk, .int .i64 xt, .int .i64 xn, .slice xa xl xc]) hs6 rfl rfl (by kernel_rfl) (by kernel_rfl) (by kernel_rfl) (by kernel_rfl) (wanted_some (j := 27) (d := 69) (bb := true) rfl rfl rfl (by simp [eval_put_ne, eval_put_eq, size_put, hts]) (by simp [size_put, hts])) (fun _ _ _ h => h) (fun U hU => run_load_agg (off := 0) Try.agg24 (by simp [eval_put_ne, eval_put_eq, size_put, hts, e9]) (((KW6).trans hU (fun _ _ h => h)).blk HX.out (fun h => h)) (by simp)) ?_
            refine tkS 29 71 (v := .agg #[.int .i64 yk, .int .i64 yt, .int .i64 yn, .slice ya yl yc]) hs6 rfl rfl (by kernel_rfl) (by kernel_rfl) (by kernel_rfl) (by kernel_rfl) (wanted_some (j := 27) (d := 69) (bb := true) rfl rfl rfl (by simp [eval_put_ne, eval_put_eq, size_put, hts]) (by simp [size_put, hts])) (fun _ _ _ h => h) (fun U hU => run_load_agg (off := 0) Try.agg24 (by simp [eval_put_ne, eval_put_eq, size_put, hts, e11]) (((KW6).trans hU (fun _ _ h => h)).blk HY.out (fun h => h)) (by simp)) ?_
            refine oneCS 30 72 (by kernel_rfl) rfl rfl (wanted_some (j := 27) (d := 69) (bb := true) rfl rfl rfl (by simp [eval_put_ne, eval_put_eq, size_put, hts]) (by simp [size_put, hts])) (r_call2 Try.func18 (by kernel_rfl) rfl rfl (by simp [eval_put_ne, eval_put_eq, size_put, hts]) (by simp [eval_put_ne, eval_put_eq, size_put, hts])) (refsame_at v6 ⟨xk, xt, xn, ⟨xa, xl, xc⟩, xw⟩ ⟨yk, yt, yn, ⟨ya, yl, yc⟩, yw⟩ (HXr.out.kept KW6) (HYr.out.kept KW6) true HSxy.out) ?_
            rintro e v7 ⟨rfl, k7⟩
            refine ⟨_, rfl, k7, ?_⟩
            have KW7 : Kept (fun _ => False) w0 v7 := KW6.trans k7 (fun _ _ h => h)
            have K7 := hide (K6.out.trans k7 (fun _ _ h => h))
            replace KP := KP.trans k7 (fun _ _ h => h)
            refine raiseM (S' := Kept (fun _ => False) v7) (fun U hU => k7.trans hU (fun _ _ h => h)) ?_
            have hs7 : (Kept (fun _ => False) v7) _ := Kept.refl _ _
            refine tkS 31 73 (v := .bool true) hs7 rfl rfl (by kernel_rfl) (by kernel_rfl) (by kernel_rfl) (by kernel_rfl) (wanted_none rfl) (fun _ _ _ h => h) (fun U hU => r_pick (by simp [eval_put_ne, eval_put_eq, size_put, hts]) (by simp [eval_put_ne, eval_put_eq, size_put, hts])) ?_
            refine tkS 32 74 (v := .bool true) hs7 rfl rfl (by kernel_rfl) (by kernel_rfl) (by kernel_rfl) (by kernel_rfl) (wanted_none rfl) (fun _ _ _ h => h) (fun U hU => r_move (by simp [eval_put_ne, eval_put_eq, size_put, hts])) ?_
            refine tkS 33 75 (v := .int .i64 0) hs7 rfl rfl (by kernel_rfl) (by kernel_rfl) (by kernel_rfl) (by kernel_rfl) (wanted_some (j := 32) (d := 74) (bb := true) rfl rfl rfl (by simp [eval_put_ne, eval_put_eq, size_put, hts]) (by simp [size_put, hts])) (fun _ _ _ h => h) (fun U hU => r_move (by simp [eval_put_ne, eval_put_eq, size_put, hts, e10])) ?_
            refine tkS 34 76 (v := .bool true) hs7 rfl rfl (by kernel_rfl) (by kernel_rfl) (by kernel_rfl) (by kernel_rfl) (wanted_some (j := 32) (d := 74) (bb := true) rfl rfl rfl (by simp [eval_put_ne, eval_put_eq, size_put, hts]) (by simp [size_put, hts])) (fun _ _ _ h => h) (fun U hU => (r_eql30 (p := 0) (q := 0) (by simp [eval_put_ne, eval_put_eq, size_put, hts]) rfl).trans (by rfl)) ?_
            refine tkS 35 77 (v := .bool true) hs7 rfl rfl (by kernel_rfl) (by kernel_rfl) (by kernel_rfl) (by kernel_rfl) (wanted_some (j := 32) (d := 74) (bb := true) rfl rfl rfl (by simp [eval_put_ne, eval_put_eq, size_put, hts]) (by simp [size_put, hts])) (fun _ _ _ h => h) (fun U hU => r_move (by simp [eval_put_ne, eval_put_eq, size_put, hts, e12])) ?_
            refine tkS 36 78 (v := .bool true) hs7 rfl rfl (by kernel_rfl) (by kernel_rfl) (by kernel_rfl) (by kernel_rfl) (wanted_some (j := 32) (d := 74) (bb := true) rfl rfl rfl (by simp [eval_put_ne, eval_put_eq, size_put, hts]) (by simp [size_put, hts])) (fun _ _ _ h => h) (fun U hU => (r_eql4 (p := true) (q := true) (by simp [eval_put_ne, eval_put_eq, size_put, hts]) (by simp [eval_put_ne, eval_put_eq, size_put, hts])).trans (by rfl)) ?_
            refine tkS 37 79 (v := .bool true) hs7 rfl rfl (by kernel_rfl) (by kernel_rfl) (by kernel_rfl) (by kernel_rfl) (wanted_none rfl) (fun _ _ _ h => h) (fun U hU => r_pick (by simp [eval_put_ne, eval_put_eq, size_put, hts]) (by simp [eval_put_ne, eval_put_eq, size_put, hts])) ?_
            refine tkS 38 80 (v := .bool true) hs7 rfl rfl (by kernel_rfl) (by kernel_rfl) (by kernel_rfl) (by kernel_rfl) (wanted_none rfl) (fun _ _ _ h => h) (fun U hU => r_move (by simp [eval_put_ne, eval_put_eq, size_put, hts])) ?_
            refine tkS 39 81 (v := .bool true) hs7 rfl rfl (by kernel_rfl) (by kernel_rfl) (by kernel_rfl) (by kernel_rfl) (wanted_some (j := 38) (d := 80) (bb := true) rfl rfl rfl (by simp [eval_put_ne, eval_put_eq, size_put, hts]) (by simp [size_put, hts])) (fun _ _ _ h => h) (fun U hU => r_move (by simp [eval_put_ne, eval_put_eq, size_put, hts, e12])) ?_
            refine tkS 40 82 (v := .bool true) hs7 rfl rfl (by kernel_rfl) (by kernel_rfl) (by kernel_rfl) (by kernel_rfl) (wanted_some (j := 38) (d := 80) (bb := true) rfl rfl rfl (by simp [eval_put_ne, eval_put_eq, size_put, hts]) (by simp [size_put, hts])) (fun _ _ _ h => h) (fun U hU => r_move (by simp [eval_put_ne, eval_put_eq, size_put, hts])) ?_
            refine tkNS 41 83 hs7 rfl rfl (by kernel_rfl) (by kernel_rfl) (by kernel_rfl) (by kernel_rfl) (wanted_not (j := 40) (d := 82) (bb := false) rfl rfl rfl (by simp [eval_put_ne, eval_put_eq, size_put, hts]) (by simp [size_put, hts])) (fun _ _ _ h => h) ?_
            refine tkNS 42 84 hs7 rfl rfl (by kernel_rfl) (by kernel_rfl) (by kernel_rfl) (by kernel_rfl) (wanted_not (j := 40) (d := 82) (bb := false) rfl rfl rfl (by simp [eval_put_ne, eval_put_eq, size_put, hts]) (by simp [size_put, hts])) (fun _ _ _ h => h) ?_
            refine tkS 43 85 (v := .bool true) hs7 rfl rfl (by kernel_rfl) (by kernel_rfl) (by kernel_rfl) (by kernel_rfl) (wanted_some (j := 38) (d := 80) (bb := true) rfl rfl rfl (by simp [eval_put_ne, eval_put_eq, size_put, hts]) (by simp [size_put, hts])) (fun _ _ _ h => h) (fun U hU => r_pick (by simp [eval_put_ne, eval_put_eq, size_put, hts]) rfl) ?_
            refine tkS 44 86 (v := .bool true) hs7 rfl rfl (by kernel_rfl) (by kernel_rfl) (by kernel_rfl) (by kernel_rfl) (wanted_none rfl) (fun _ _ _ h => h) (fun U hU => r_pick (by simp [eval_put_ne, eval_put_eq, size_put, hts]) (by simp [eval_put_ne, eval_put_eq, size_put, hts])) ?_
            refine tkS 45 6 (v := .bool true) hs7 rfl rfl (by kernel_rfl) (by kernel_rfl) (by kernel_rfl) (by kernel_rfl) (wanted_none rfl) (fun _ _ _ h => h) (fun U hU => r_assign (by simp [eval_put_ne, eval_put_eq, size_put, hts])) ?_
            refine doneS (by kernel_rfl) ?_
            rw [hfr.out]
            clear hfr e3 e4 e7 e8 e9 e10 e11 e12 hts
            simp only [put_lit, put_none, List.set_cons_succ, List.set_cons_zero]
            have HKF := hide K7.out
            clear hS0 hs1 hs2 hs3 hs4 hs5 hs6 hs7 hkw hheap KW0 KW1 KW2 KW3 KW4 KW5 KW6 KW7 KP k1 k2 k3 k4 k5 k6 k7
            go_wp2
            go_ret
            exact ⟨rfl, HKF.out⟩
          | false =>
            have hec : ec = 20 ∧ Rv.rc ⟨xk, xt, xn, ⟨xa, xl, xc⟩, xw⟩ = Rv.rc ⟨yk, yt, yn, ⟨ya, yl, yc⟩, yw⟩ := by
              rcases HGX2.out with ⟨p1, p2⟩ | ⟨p1, p2, p3⟩ <;> rcases HGY.out.2 with ⟨q1, q2⟩ | ⟨q1, q2, q3⟩
              · first | exact ⟨p2, Option.some.inj (p1.symm.trans q1)⟩ | cases q2
              · rw [p1] at q1; cases q1
              · rw [p1] at q1; cases q1
              · first | exact ⟨p2, p3.trans q3.symm⟩ | cases q2
            have HSxy : Hid (sameR ⟨xk, xt, xn, ⟨xa, xl, xc⟩, xw⟩ ⟨yk, yt, yn, ⟨ya, yl, yc⟩, yw⟩ = true) := hide ((sameR_iff _ _).2 hec.2)
            obtain ⟨rfl, -⟩ := hec
            go_wp2_with (first
              | ((with_reducible refine aw_alloc (dst := some 11) Hi24.out Hz24.out ?_); intro g5 hb5 hk5 hz5; have Yz5 := hide hz5; clear hz5)
              | ((with_reducible refine aw_store (x := .tmp 11) (M := [.int .i64 yk, .int .i64 yt, .int .i64 yn, .slice ya yl yc]) Try.agg24 rfl rfl rfl (by simp [Value.oneCell']) hb5 (by simp [Value.cells]) ?_); intro g6 hb6 hk6 hz6; clear hz6; rw [put_whole _ _ (by simp [Value.cells])] at hb6; have hk46 : Kept (fun _ => False) g4 g6 := hk5.trans hk6 (fun i hi h => by omega); have HK9 := hide (HK4'.out.trans hk46 (fun _ _ h => h)); have HYr9 : Hid (RcAt g6 ⟨yk, yt, yn, ⟨ya, yl, yc⟩, yw⟩) := hide (HGY.out.1.kept hk46))
              | fail)
            obtain ⟨by_, hby⟩ : ∃ b, b = g4.heap.size := ⟨_, rfl⟩
            rw [← hby] at hb6 ⊢
            have HBy9 : Hid (Blk g6 by_ [.int .i64 yk, .int .i64 yt, .int .i64 yn, .slice ya yl yc] 24) := hide hb6
            have HBa9 := hide (hk46.blk HBa4.out (fun h => h))
            have HBc9 := hide (hk46.blk HBc4.out (fun h => h))
            have HBx9 := hide (hk46.blk HBx4.out (fun h => h))
            have HXr9 := hide (HXr4.out.kept hk46)
            clear hb5 hb6 hk5 hk6 hk46 hby Yz5 HGY HGX2 HBa4 HBc4 HBx4 HXr4 HK4'
            try go_wp2
            refine hold_frame (p := fun fr => Code.wp Try.prog _ _ fr _) ?_
            intro fr hfr
            have e3 : fr.eval (.tmp 3) = .pointer (some ⟨ba, 0, none⟩) := by rw [hfr.out]; rfl
            have e4 : fr.eval (.tmp 4) = .pointer (some ⟨bc, 0, none⟩) := by rw [hfr.out]; rfl
            have e7 : fr.eval (.tmp 7) = .string (strN []) := by rw [hfr.out]; rfl
            have e8 : fr.eval (.tmp 8) = .int .i64 (0 : Nat) := by rw [hfr.out]; rfl
            have e9 : fr.eval (.tmp 9) = .pointer (some ⟨bx, 0, none⟩) := by rw [hfr.out]; rfl
            have e10 : fr.eval (.tmp 10) = .int .i64 20 := by rw [hfr.out]; rfl
            have e11 : fr.eval (.tmp 11) = .pointer (some ⟨by_, 0, none⟩) := by rw [hfr.out]; rfl
            have e12 : fr.eval (.tmp 12) = .bool false := by rw [hfr.out]; rfl
            have hts : fr.tmps.size = 87 := by rw [hfr.out]; rfl
            refine region_S0 99 Try.mixed ?_
            intro w0 hkw hheap
            have HA := hide (hkw.blk HBa9.out (fun h => h))
            have HC := hide (hkw.blk HBc9.out (fun h => h))
            have HX := hide (hkw.blk HBx9.out (fun h => h))
            have HY := hide (hkw.blk HBy9.out (fun h => h))
            have HK0 := hide (HK9.out.trans hkw (fun _ _ h => h))
            have HXr := hide (HXr9.out.kept hkw)
            have HYr := hide (HYr9.out.kept hkw)
            have hS0 : Kept (fun _ => False) w0 w0 := Kept.refl (fun _ => False) w0
            refine ⟨Kept (fun _ => False) w0, ?_⟩
            refine tkS 0 42 (v := .agg #[.int .i64 ak, .int .i64 at_, .int .i64 an, .slice aa al ac]) hS0 rfl rfl (by kernel_rfl) (by kernel_rfl) (by kernel_rfl) (by kernel_rfl) (wanted_none rfl) (fun _ _ _ h => h) (fun U hU => run_load_agg (off := 0) Try.agg24 (by simp [eval_put_ne, eval_put_eq, size_put, hts, e3]) (((hS0).trans hU (fun _ _ h => h)).blk HA.out (fun h => h)) (by simp)) ?_
            refine tkS 2 44 (v := .agg #[.int .i64 ak, .int .i64 at_, .int .i64 an, .slice aa al ac]) hS0 rfl rfl (by kernel_rfl) (by kernel_rfl) (by kernel_rfl) (by kernel_rfl) (wanted_none rfl) (fun _ _ _ h => h) (fun U hU => run_load_agg (off := 0) Try.agg24 (by simp [eval_put_ne, eval_put_eq, size_put, hts, e3]) (((hS0).trans hU (fun _ _ h => h)).blk HA.out (fun h => h)) (by simp)) ?_
            have K0 := HK0
            have KW0 := Kept.refl (fun _ => False) w0
            refine oneCS 1 43 (by kernel_rfl) rfl rfl (wanted_none rfl) (r_call1 Try.func14 (by kernel_rfl) rfl rfl (by simp [eval_put_ne, eval_put_eq, size_put, hts])) ((right_at w0 ⟨ak, at_, an, ⟨aa, al, ac⟩, aw⟩ (HAr.out.kept K0.out)).mono (fun _ _ h => by rw [HRB.out] at h; exact h)) ?_
            rintro e v1 ⟨rfl, k1⟩
            refine ⟨_, rfl, k1, ?_⟩
            have KW1 : Kept (fun _ => False) w0 v1 := KW0.trans k1 (fun _ _ h => h)
            have K1 := hide (K0.out.trans k1 (fun _ _ h => h))
            refine raiseM (S' := Kept (fun _ => False) v1) (fun U hU => k1.trans hU (fun _ _ h => h)) ?_
            have hs1 : (Kept (fun _ => False) v1) _ := Kept.refl _ _
            refine oneCS 3 45 (by kernel_rfl) rfl rfl (wanted_none rfl) (r_call1 Try.func9 (by kernel_rfl) rfl rfl (by simp [eval_put_ne, eval_put_eq, size_put, hts])) (rright_at v1 ⟨ak, at_, an, ⟨aa, al, ac⟩, aw⟩ (HAr.out.kept K1.out) false HRB.out) ?_
            rintro e v2 ⟨rfl, k2⟩
            refine ⟨_, rfl, k2, ?_⟩
            have KW2 : Kept (fun _ => False) w0 v2 := KW1.trans k2 (fun _ _ h => h)
            have K2 := hide (K1.out.trans k2 (fun _ _ h => h))
            refine raiseM (S' := Kept (fun _ => False) v2) (fun U hU => k2.trans hU (fun _ _ h => h)) ?_
            have hs2 : (Kept (fun _ => False) v2) _ := Kept.refl _ _
            refine tkS 4 46 (v := .bool true) hs2 rfl rfl (by kernel_rfl) (by kernel_rfl) (by kernel_rfl) (by kernel_rfl) (wanted_none rfl) (fun _ _ _ h => h) (fun U hU => (r_eql4 (p := false) (q := false) (by simp [eval_put_ne, eval_put_eq, size_put, hts]) (by simp [eval_put_ne, eval_put_eq, size_put, hts])).trans (by rfl)) ?_
            refine tkS 5 47 (v := .bool true) hs2 rfl rfl (by kernel_rfl) (by kernel_rfl) (by kernel_rfl) (by kernel_rfl) (wanted_none rfl) (fun _ _ _ h => h) (fun U hU => r_move (by simp [eval_put_ne, eval_put_eq, size_put, hts])) ?_
            refine tkS 6 48 (v := .agg #[.int .i64 ak, .int .i64 at_, .int .i64 an, .slice aa al ac]) hs2 rfl rfl (by kernel_rfl) (by kernel_rfl) (by kernel_rfl) (by kernel_rfl) (wanted_some (j := 5) (d := 47) (bb := true) rfl rfl rfl (by simp [eval_put_ne, eval_put_eq, size_put, hts]) (by simp [size_put, hts])) (fun _ _ _ h => h) (fun U hU => run_load_agg (off := 0) Try.agg24 (by simp [eval_put_ne, eval_put_eq, size_put, hts, e3]) (((KW2).trans hU (fun _ _ h => h)).blk HA.out (fun h => h)) (by simp)) ?_
            refine tkS 9 51 (v := .string (strN [])) hs2 rfl rfl (by kernel_rfl) (by kernel_rfl) (by kernel_rfl) (by kernel_rfl) (wanted_some (j := 5) (d := 47) (bb := true) rfl rfl rfl (by simp [eval_put_ne, eval_put_eq, size_put, hts]) (by simp [size_put, hts])) (fun _ _ _ h => h) (fun U hU => r_move (by simp [eval_put_ne, eval_put_eq, size_put, hts, e7])) ?_
            refine oneCS 7 49 (by kernel_rfl) rfl rfl (wanted_some (j := 5) (d := 47) (bb := true) rfl rfl rfl (by simp [eval_put_ne, eval_put_eq, size_put, hts]) (by simp [size_put, hts])) (r_call1 Try.func15 (by kernel_rfl) rfl rfl (by simp [eval_put_ne, eval_put_eq, size_put, hts])) (put_at v2 ⟨ak, at_, an, ⟨aa, al, ac⟩, aw⟩ (HAr.out.kept K2.out)) ?_
            rintro e v3 ⟨⟨ta, tn, tc⟩, rfl, hsp0, k3⟩
            refine ⟨_, rfl, k3, ?_⟩
            have KW3 : Kept (fun _ => False) w0 v3 := KW2.trans k3 (fun _ _ h => h)
            have K3 := hide (K2.out.trans k3 (fun _ _ h => h))
            have hsp : Src v3 (.slice ta tn tc) [] := by rw [← HPut.out]; exact hsp0
            have KP := Kept.refl (fun _ => False) v3
            refine raiseM (S' := Kept (fun _ => False) v3) (fun U hU => k3.trans hU (fun _ _ h => h)) ?_
            have hs3 : (Kept (fun _ => False) v3) _ := Kept.refl _ _
            refine tkS 8 50 (v := .string (strN [])) hs3 rfl rfl (by kernel_rfl) (by kernel_rfl) (by kernel_rfl) (by kernel_rfl) (wanted_some (j := 5) (d := 47) (bb := true) rfl rfl rfl (by simp [eval_put_ne, eval_put_eq, size_put, hts]) (by simp [size_put, hts])) (fun _ _ _ h => h) (fun U hU => r_strS (by simp [eval_put_ne, eval_put_eq, size_put, hts]) (hsp.kept ((KP).trans hU (fun _ _ h => h)))) ?_
            refine tkS 10 52 (v := .bool true) hs3 rfl rfl (by kernel_rfl) (by kernel_rfl) (by kernel_rfl) (by kernel_rfl) (wanted_some (j := 5) (d := 47) (bb := true) rfl rfl rfl (by simp [eval_put_ne, eval_put_eq, size_put, hts]) (by simp [size_put, hts])) (fun _ _ _ h => h) (fun U hU => (r_eql9 (p := strN []) (q := strN []) (by simp [eval_put_ne, eval_put_eq, size_put, hts]) (by simp [eval_put_ne, eval_put_eq, size_put, hts])).trans (by simp)) ?_
            refine tkS 11 53 (v := .bool true) hs3 rfl rfl (by kernel_rfl) (by kernel_rfl) (by kernel_rfl) (by kernel_rfl) (wanted_none rfl) (fun _ _ _ h => h) (fun U hU => r_pick (by simp [eval_put_ne, eval_put_eq, size_put, hts]) (by simp [eval_put_ne, eval_put_eq, size_put, hts])) ?_
            refine tkS 12 54 (v := .bool true) hs3 rfl rfl (by kernel_rfl) (by kernel_rfl) (by kernel_rfl) (by kernel_rfl) (wanted_none rfl) (fun _ _ _ h => h) (fun U hU => r_move (by simp [eval_put_ne, eval_put_eq, size_put, hts])) ?_
            refine tkS 13 55 (v := .agg #[.int .i64 ak, .int .i64 at_, .int .i64 an, .slice aa al ac]) hs3 rfl rfl (by kernel_rfl) (by kernel_rfl) (by kernel_rfl) (by kernel_rfl) (wanted_some (j := 12) (d := 54) (bb := true) rfl rfl rfl (by simp [eval_put_ne, eval_put_eq, size_put, hts]) (by simp [size_put, hts])) (fun _ _ _ h => h) (fun U hU => run_load_agg (off := 0) Try.agg24 (by simp [eval_put_ne, eval_put_eq, size_put, hts, e3]) (((KW3).trans hU (fun _ _ h => h)).blk HA.out (fun h => h)) (by simp)) ?_
            refine tkS 15 57 (v := .int .i64 (0 : Nat)) hs3 rfl rfl (by kernel_rfl) (by kernel_rfl) (by kernel_rfl) (by kernel_rfl) (wanted_some (j := 12) (d := 54) (bb := true) rfl rfl rfl (by simp [eval_put_ne, eval_put_eq, size_put, hts]) (by simp [size_put, hts])) (fun _ _ _ h => h) (fun U hU => r_move (by simp [eval_put_ne, eval_put_eq, size_put, hts, e8])) ?_
            refine oneCS 14 56 (by kernel_rfl) rfl rfl (wanted_some (j := 12) (d := 54) (bb := true) rfl rfl rfl (by simp [eval_put_ne, eval_put_eq, size_put, hts]) (by simp [size_put, hts])) (r_call1 Try.func16 (by kernel_rfl) rfl rfl (by simp [eval_put_ne, eval_put_eq, size_put, hts])) (rsect_at v3 ⟨ak, at_, an, ⟨aa, al, ac⟩, aw⟩ (HAr.out.kept K3.out) [] HPut.out HBsl.out 0 HSec.out) ?_
            rintro e v4 ⟨rfl, k4⟩
            refine ⟨_, rfl, k4, ?_⟩
            have KW4 : Kept (fun _ => False) w0 v4 := KW3.trans k4 (fun _ _ h => h)
            have K4 := hide (K3.out.trans k4 (fun _ _ h => h))
            replace KP := KP.trans k4 (fun _ _ h => h)
            refine raiseM (S' := Kept (fun _ => False) v4) (fun U hU => k4.trans hU (fun _ _ h => h)) ?_
            have hs4 : (Kept (fun _ => False) v4) _ := Kept.refl _ _
            refine tkS 16 58 (v := .bool true) hs4 rfl rfl (by kernel_rfl) (by kernel_rfl) (by kernel_rfl) (by kernel_rfl) (wanted_some (j := 12) (d := 54) (bb := true) rfl rfl rfl (by simp [eval_put_ne, eval_put_eq, size_put, hts]) (by simp [size_put, hts])) (fun _ _ _ h => h) (fun U hU => (r_eql3 (p := ((0 : Nat) : Int)) (q := ((0 : Nat) : Int)) (by simp [eval_put_ne, eval_put_eq, size_put, hts]) (by simp [eval_put_ne, eval_put_eq, size_put, hts])).trans (by simp)) ?_
            refine tkS 17 59 (v := .bool true) hs4 rfl rfl (by kernel_rfl) (by kernel_rfl) (by kernel_rfl) (by kernel_rfl) (wanted_none rfl) (fun _ _ _ h => h) (fun U hU => r_pick (by simp [eval_put_ne, eval_put_eq, size_put, hts]) (by simp [eval_put_ne, eval_put_eq, size_put, hts])) ?_
            refine tkS 18 60 (v := .bool true) hs4 rfl rfl (by kernel_rfl) (by kernel_rfl) (by kernel_rfl) (by kernel_rfl) (wanted_none rfl) (fun _ _ _ h => h) (fun U hU => r_move (by simp [eval_put_ne, eval_put_eq, size_put, hts])) ?_
            refine tkS 19 61 (v := .agg #[.int .i64 ak, .int .i64 at_, .int .i64 an, .slice aa al ac]) hs4 rfl rfl (by kernel_rfl) (by kernel_rfl) (by kernel_rfl) (by kernel_rfl) (wanted_some (j := 18) (d := 60) (bb := true) rfl rfl rfl (by simp [eval_put_ne, eval_put_eq, size_put, hts]) (by simp [size_put, hts])) (fun _ _ _ h => h) (fun U hU => run_load_agg (off := 0) Try.agg24 (by simp [eval_put_ne, eval_put_eq, size_put, hts, e3]) (((KW4).trans hU (fun _ _ h => h)).blk HA.out (fun h => h)) (by simp)) ?_
            refine tkS 20 62 (v := .agg #[.int .i64 ck, .int .i64 ct, .int .i64 cn, .slice ca cl cc]) hs4 rfl rfl (by kernel_rfl) (by kernel_rfl) (by kernel_rfl) (by kernel_rfl) (wanted_some (j := 18) (d := 60) (bb := true) rfl rfl rfl (by simp [eval_put_ne, eval_put_eq, size_put, hts]) (by simp [size_put, hts])) (fun _ _ _ h => h) (fun U hU => run_load_agg (off := 0) Try.agg24 (by simp [eval_put_ne, eval_put_eq, size_put, hts, e4]) (((KW4).trans hU (fun _ _ h => h)).blk HC.out (fun h => h)) (by simp)) ?_
            refine tkS 22 64 (v := .agg #[.int .i64 ak, .int .i64 at_, .int .i64 an, .slice aa al ac]) hs4 rfl rfl (by kernel_rfl) (by kernel_rfl) (by kernel_rfl) (by kernel_rfl) (wanted_some (j := 18) (d := 60) (bb := true) rfl rfl rfl (by simp [eval_put_ne, eval_put_eq, size_put, hts]) (by simp [size_put, hts])) (fun _ _ _ h => h) (fun U hU => run_load_agg (off := 0) Try.agg24 (by simp [eval_put_ne, eval_put_eq, size_put, hts, e3]) (((KW4).trans hU (fun _ _ h => h)).blk HA.out (fun h => h)) (by simp)) ?_
            refine tkS 23 65 (v := .agg #[.int .i64 ck, .int .i64 ct, .int .i64 cn, .slice ca cl cc]) hs4 rfl rfl (by kernel_rfl) (by kernel_rfl) (by kernel_rfl) (by kernel_rfl) (wanted_some (j := 18) (d := 60) (bb := true) rfl rfl rfl (by simp [eval_put_ne, eval_put_eq, size_put, hts]) (by simp [size_put, hts])) (fun _ _ _ h => h) (fun U hU => run_load_agg (off := 0) Try.agg24 (by simp [eval_put_ne, eval_put_eq, size_put, hts, e4]) (((KW4).trans hU (fun _ _ h => h)).blk HC.out (fun h => h)) (by simp)) ?_
            refine oneCS 21 63 (by kernel_rfl) rfl rfl (wanted_some (j := 18) (d := 60) (bb := true) rfl rfl rfl (by simp [eval_put_ne, eval_put_eq, size_put, hts]) (by simp [size_put, hts])) (r_call2 Try.func17 (by kernel_rfl) rfl rfl (by simp [eval_put_ne, eval_put_eq, size_put, hts]) (by simp [eval_put_ne, eval_put_eq, size_put, hts])) (rsame_at v4 ⟨ak, at_, an, ⟨aa, al, ac⟩, aw⟩ ⟨ck, ct, cn, ⟨ca, cl, cc⟩, cw⟩ (HAr.out.kept K4.out) (HCr.out.kept K4.out) sac HSac.out) ?_
            rintro e v5 ⟨rfl, k5⟩
            refine ⟨_, rfl, k5, ?_⟩
            have KW5 : Kept (fun _ => False) w0 v5 := KW4.trans k5 (fun _ _ h => h)
            have K5 := hide (K4.out.trans k5 (fun _ _ h => h))
            replace KP := KP.trans k5 (fun _ _ h => h)
            refine raiseM (S' := Kept (fun _ => False) v5) (fun U hU => k5.trans hU (fun _ _ h => h)) ?_
            have hs5 : (Kept (fun _ => False) v5) _ := Kept.refl _ _
            refine oneCS 24 66 (by kernel_rfl) rfl rfl (wanted_some (j := 18) (d := 60) (bb := true) rfl rfl rfl (by simp [eval_put_ne, eval_put_eq, size_put, hts]) (by simp [size_put, hts])) (r_call2 Try.func18 (by kernel_rfl) rfl rfl (by simp [eval_put_ne, eval_put_eq, size_put, hts]) (by simp [eval_put_ne, eval_put_eq, size_put, hts])) (refsame_at v5 ⟨ak, at_, an, ⟨aa, al, ac⟩, aw⟩ ⟨ck, ct, cn, ⟨ca, cl, cc⟩, cw⟩ (HAr.out.kept K5.out) (HCr.out.kept K5.out) sac HSac.out) ?_
            rintro e v6 ⟨rfl, k6⟩
            refine ⟨_, rfl, k6, ?_⟩
            have KW6 : Kept (fun _ => False) w0 v6 := KW5.trans k6 (fun _ _ h => h)
            have K6 := hide (K5.out.trans k6 (fun _ _ h => h))
            replace KP := KP.trans k6 (fun _ _ h => h)
            refine raiseM (S' := Kept (fun _ => False) v6) (fun U hU => k6.trans hU (fun _ _ h => h)) ?_
            have hs6 : (Kept (fun _ => False) v6) _ := Kept.refl _ _
            refine tkS 25 67 (v := .bool true) hs6 rfl rfl (by kernel_rfl) (by kernel_rfl) (by kernel_rfl) (by kernel_rfl) (wanted_some (j := 18) (d := 60) (bb := true) rfl rfl rfl (by simp [eval_put_ne, eval_put_eq, size_put, hts]) (by simp [size_put, hts])) (fun _ _ _ h => h) (fun U hU => (r_eql4 (p := sac) (q := sac) (by simp [eval_put_ne, eval_put_eq, size_put, hts]) (by simp [eval_put_ne, eval_put_eq, size_put, hts])).trans (by simp)) ?_
            refine tkS 26 68 (v := .bool true) hs6 rfl rfl (by kernel_rfl) (by kernel_rfl) (by kernel_rfl) (by kernel_rfl) (wanted_none rfl) (fun _ _ _ h => h) (fun U hU => r_pick (by simp [eval_put_ne, eval_put_eq, size_put, hts]) (by simp [eval_put_ne, eval_put_eq, size_put, hts])) ?_
            refine tkS 27 69 (v := .bool true) hs6 rfl rfl (by kernel_rfl) (by kernel_rfl) (by kernel_rfl) (by kernel_rfl) (wanted_none rfl) (fun _ _ _ h => h) (fun U hU => r_move (by simp [eval_put_ne, eval_put_eq, size_put, hts])) ?_
            refine tkS 28 70 (v := .agg #[.int .i64 xk, .int .i64 xt, .int .i64 xn, .slice xa xl xc]) hs6 rfl rfl (by kernel_rfl) (by kernel_rfl) (by kernel_rfl) (by kernel_rfl) (wanted_some (j := 27) (d := 69) (bb := true) rfl rfl rfl (by simp [eval_put_ne, eval_put_eq, size_put, hts]) (by simp [size_put, hts])) (fun _ _ _ h => h) (fun U hU => run_load_agg (off := 0) Try.agg24 (by simp [eval_put_ne, eval_put_eq, size_put, hts, e9]) (((KW6).trans hU (fun _ _ h => h)).blk HX.out (fun h => h)) (by simp)) ?_
            refine tkS 29 71 (v := .agg #[.int .i64 yk, .int .i64 yt, .int .i64 yn, .slice ya yl yc]) hs6 rfl rfl (by kernel_rfl) (by kernel_rfl) (by kernel_rfl) (by kernel_rfl) (wanted_some (j := 27) (d := 69) (bb := true) rfl rfl rfl (by simp [eval_put_ne, eval_put_eq, size_put, hts]) (by simp [size_put, hts])) (fun _ _ _ h => h) (fun U hU => run_load_agg (off := 0) Try.agg24 (by simp [eval_put_ne, eval_put_eq, size_put, hts, e11]) (((KW6).trans hU (fun _ _ h => h)).blk HY.out (fun h => h)) (by simp)) ?_
            refine oneCS 30 72 (by kernel_rfl) rfl rfl (wanted_some (j := 27) (d := 69) (bb := true) rfl rfl rfl (by simp [eval_put_ne, eval_put_eq, size_put, hts]) (by simp [size_put, hts])) (r_call2 Try.func18 (by kernel_rfl) rfl rfl (by simp [eval_put_ne, eval_put_eq, size_put, hts]) (by simp [eval_put_ne, eval_put_eq, size_put, hts])) (refsame_at v6 ⟨xk, xt, xn, ⟨xa, xl, xc⟩, xw⟩ ⟨yk, yt, yn, ⟨ya, yl, yc⟩, yw⟩ (HXr.out.kept KW6) (HYr.out.kept KW6) true HSxy.out) ?_
            rintro e v7 ⟨rfl, k7⟩
            refine ⟨_, rfl, k7, ?_⟩
            have KW7 : Kept (fun _ => False) w0 v7 := KW6.trans k7 (fun _ _ h => h)
            have K7 := hide (K6.out.trans k7 (fun _ _ h => h))
            replace KP := KP.trans k7 (fun _ _ h => h)
            refine raiseM (S' := Kept (fun _ => False) v7) (fun U hU => k7.trans hU (fun _ _ h => h)) ?_
            have hs7 : (Kept (fun _ => False) v7) _ := Kept.refl _ _
            refine tkS 31 73 (v := .bool true) hs7 rfl rfl (by kernel_rfl) (by kernel_rfl) (by kernel_rfl) (by kernel_rfl) (wanted_none rfl) (fun _ _ _ h => h) (fun U hU => r_pick (by simp [eval_put_ne, eval_put_eq, size_put, hts]) (by simp [eval_put_ne, eval_put_eq, size_put, hts])) ?_
            refine tkS 32 74 (v := .bool true) hs7 rfl rfl (by kernel_rfl) (by kernel_rfl) (by kernel_rfl) (by kernel_rfl) (wanted_none rfl) (fun _ _ _ h => h) (fun U hU => r_move (by simp [eval_put_ne, eval_put_eq, size_put, hts])) ?_
            refine tkS 33 75 (v := .int .i64 20) hs7 rfl rfl (by kernel_rfl) (by kernel_rfl) (by kernel_rfl) (by kernel_rfl) (wanted_some (j := 32) (d := 74) (bb := true) rfl rfl rfl (by simp [eval_put_ne, eval_put_eq, size_put, hts]) (by simp [size_put, hts])) (fun _ _ _ h => h) (fun U hU => r_move (by simp [eval_put_ne, eval_put_eq, size_put, hts, e10])) ?_
            refine tkS 34 76 (v := .bool false) hs7 rfl rfl (by kernel_rfl) (by kernel_rfl) (by kernel_rfl) (by kernel_rfl) (wanted_some (j := 32) (d := 74) (bb := true) rfl rfl rfl (by simp [eval_put_ne, eval_put_eq, size_put, hts]) (by simp [size_put, hts])) (fun _ _ _ h => h) (fun U hU => (r_eql30 (p := 20) (q := 0) (by simp [eval_put_ne, eval_put_eq, size_put, hts]) rfl).trans (by rfl)) ?_
            refine tkS 35 77 (v := .bool false) hs7 rfl rfl (by kernel_rfl) (by kernel_rfl) (by kernel_rfl) (by kernel_rfl) (wanted_some (j := 32) (d := 74) (bb := true) rfl rfl rfl (by simp [eval_put_ne, eval_put_eq, size_put, hts]) (by simp [size_put, hts])) (fun _ _ _ h => h) (fun U hU => r_move (by simp [eval_put_ne, eval_put_eq, size_put, hts, e12])) ?_
            refine tkS 36 78 (v := .bool true) hs7 rfl rfl (by kernel_rfl) (by kernel_rfl) (by kernel_rfl) (by kernel_rfl) (wanted_some (j := 32) (d := 74) (bb := true) rfl rfl rfl (by simp [eval_put_ne, eval_put_eq, size_put, hts]) (by simp [size_put, hts])) (fun _ _ _ h => h) (fun U hU => (r_eql4 (p := false) (q := false) (by simp [eval_put_ne, eval_put_eq, size_put, hts]) (by simp [eval_put_ne, eval_put_eq, size_put, hts])).trans (by rfl)) ?_
            refine tkS 37 79 (v := .bool true) hs7 rfl rfl (by kernel_rfl) (by kernel_rfl) (by kernel_rfl) (by kernel_rfl) (wanted_none rfl) (fun _ _ _ h => h) (fun U hU => r_pick (by simp [eval_put_ne, eval_put_eq, size_put, hts]) (by simp [eval_put_ne, eval_put_eq, size_put, hts])) ?_
            refine tkS 38 80 (v := .bool true) hs7 rfl rfl (by kernel_rfl) (by kernel_rfl) (by kernel_rfl) (by kernel_rfl) (wanted_none rfl) (fun _ _ _ h => h) (fun U hU => r_move (by simp [eval_put_ne, eval_put_eq, size_put, hts])) ?_
            refine tkS 39 81 (v := .bool false) hs7 rfl rfl (by kernel_rfl) (by kernel_rfl) (by kernel_rfl) (by kernel_rfl) (wanted_some (j := 38) (d := 80) (bb := true) rfl rfl rfl (by simp [eval_put_ne, eval_put_eq, size_put, hts]) (by simp [size_put, hts])) (fun _ _ _ h => h) (fun U hU => r_move (by simp [eval_put_ne, eval_put_eq, size_put, hts, e12])) ?_
            refine tkS 40 82 (v := .bool false) hs7 rfl rfl (by kernel_rfl) (by kernel_rfl) (by kernel_rfl) (by kernel_rfl) (wanted_some (j := 38) (d := 80) (bb := true) rfl rfl rfl (by simp [eval_put_ne, eval_put_eq, size_put, hts]) (by simp [size_put, hts])) (fun _ _ _ h => h) (fun U hU => r_move (by simp [eval_put_ne, eval_put_eq, size_put, hts])) ?_
            refine tkS 41 83 (v := .int .i64 20) hs7 rfl rfl (by kernel_rfl) (by kernel_rfl) (by kernel_rfl) (by kernel_rfl) (wanted_some (j := 40) (d := 82) (bb := false) rfl rfl rfl (by simp [eval_put_ne, eval_put_eq, size_put, hts]) (by simp [size_put, hts])) (fun _ _ _ h => h) (fun U hU => r_move (by simp [eval_put_ne, eval_put_eq, size_put, hts, e10])) ?_
            refine tkS 42 84 (v := .bool true) hs7 rfl rfl (by kernel_rfl) (by kernel_rfl) (by kernel_rfl) (by kernel_rfl) (wanted_some (j := 40) (d := 82) (bb := false) rfl rfl rfl (by simp [eval_put_ne, eval_put_eq, size_put, hts]) (by simp [size_put, hts])) (fun _ _ _ h => h) (fun U hU => (r_eql30 (p := 20) (q := 20) (by simp [eval_put_ne, eval_put_eq, size_put, hts]) rfl).trans (by rfl)) ?_
            refine tkS 43 85 (v := .bool true) hs7 rfl rfl (by kernel_rfl) (by kernel_rfl) (by kernel_rfl) (by kernel_rfl) (wanted_some (j := 38) (d := 80) (bb := true) rfl rfl rfl (by simp [eval_put_ne, eval_put_eq, size_put, hts]) (by simp [size_put, hts])) (fun _ _ _ h => h) (fun U hU => r_pickF (by simp [eval_put_ne, eval_put_eq, size_put, hts]) (by simp [eval_put_ne, eval_put_eq, size_put, hts])) ?_
            refine tkS 44 86 (v := .bool true) hs7 rfl rfl (by kernel_rfl) (by kernel_rfl) (by kernel_rfl) (by kernel_rfl) (wanted_none rfl) (fun _ _ _ h => h) (fun U hU => r_pick (by simp [eval_put_ne, eval_put_eq, size_put, hts]) (by simp [eval_put_ne, eval_put_eq, size_put, hts])) ?_
            refine tkS 45 6 (v := .bool true) hs7 rfl rfl (by kernel_rfl) (by kernel_rfl) (by kernel_rfl) (by kernel_rfl) (wanted_none rfl) (fun _ _ _ h => h) (fun U hU => r_assign (by simp [eval_put_ne, eval_put_eq, size_put, hts])) ?_
            refine doneS (by kernel_rfl) ?_
            rw [hfr.out]
            clear hfr e3 e4 e7 e8 e9 e10 e11 e12 hts
            simp only [put_lit, put_none, List.set_cons_succ, List.set_cons_zero]
            have HKF := hide K7.out
            clear hS0 hs1 hs2 hs3 hs4 hs5 hs6 hs7 hkw hheap KW0 KW1 KW2 KW3 KW4 KW5 KW6 KW7 KP k1 k2 k3 k4 k5 k6 k7
            go_wp2
            go_ret
            exact ⟨rfl, HKF.out⟩
end Go.Proofs.Ytcdlgaknpmlfeaa
