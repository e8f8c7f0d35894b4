/-
  MarksPlay, walked.
-/
import Derived.Test.YteijgdfgdhafnaaMkPlayM
namespace Go.Proofs.Yteijgdfgdhafnaa
open Go.RowKit Go.Shelf
set_option linter.unusedSimpArgs false
set_option linter.unusedVariables false
set_option maxRecDepth 100000

theorem Try.info38 : (Try.prog.info? 38).map (fun i => (i.zero, i.size, i.bytes)) = some (some (.agg #[.int .i64 0, .slice none 0 0]), 2, 32) := by kernel_rfl
theorem Try.agg38 : aggSize Try.prog 38 2 := by
  obtain ⟨i0, hi, _, hs, _⟩ := info_parts Try.info38
  exact ⟨⟨i0, hi, hs⟩, _, Try.underlying38, .inr ⟨_, rfl⟩⟩
section
variable {ρ : Operand → Value} {w : World} {dst : Option Tmp} {ty : TypeId} {pos : String} {aft : Array Edge} {gd : Option (Nat × Bool)} {x y z : Operand}
theorem r_sub3 {p q r : Int} (hx : ρ x = .int .i64 p) (hy : ρ y = .int .i64 q) (hr : IntKind.i64.wrap (p - q) = r) : (execOp ρ ⟨dst, .binOp .sub 3 x y 3, ty, pos, aft, gd⟩).run Try.prog w = .ok (.value (.int .i64 r)) w := by
  subst hr
  go_simp
theorem r_fop {b : Nat} (hx : ρ x = .pointer (some ⟨b, 0, none⟩)) : (execOp ρ ⟨dst, .fieldAddr 38 x 0, ty, pos, aft, gd⟩).run Try.prog w = .ok (.value (.pointer (some ⟨b, 0, none⟩))) w := by
  go_simp
theorem r_ld3 {a : Addr} {v : Value} (hx : ρ x = .pointer (some a)) (hc : w.cell? a = some v) : (execOp ρ ⟨dst, .load 3 x, ty, pos, aft, gd⟩).run Try.prog w = .ok (.value v) w := by
  go_simp
end
theorem since_same {W w w' : World} {va vb : Value} {S : List Int} (ha : GathZ W w va S) (hb : GathZ W w vb S) : ∃ aa ca ab cb, va = .slice aa S.length ca ∧ vb = .slice ab S.length cb := by
  obtain ⟨aa, ca, rfl⟩ := ownsRow_slice ha.1
  obtain ⟨ab, cb, rfl⟩ := ownsRow_slice hb.1
  exact ⟨aa, ca, ab, cb, rfl, rfl⟩
set_option maxHeartbeats 4000000 in
theorem plays_no (W : World) (b n : Int) (v : Value) (h : mkNew b n = false) : Calls Try.prog 3 #[.int .i64 b, .int .i64 n, v] W fun e w' => e = .returned (.bool true) ∧ Kept (fun _ => False) W w' := by
  have H := hide h
  clear h
  go_enter Try.func3, Try.ntmps3
  go_wp2_with fail
  refine (first_at W).mono ?_
  rintro e w1 ⟨rfl, hk1⟩
  have HK1 := hide hk1
  clear hk1
  go_wp2_with fail
  refine (mnew_no w1 b n H.out).mono ?_
  rintro e w2 ⟨rfl, rfl⟩
  go_wp2_with fail
  refine (rnew_no w1 b n H.out).mono ?_
  rintro e w2 ⟨rfl, rfl⟩
  go_wp2_with fail
  refine (note_nil w1 0 _).mono ?_
  rintro e w2 ⟨rfl, rfl⟩
  go_wp2_with fail
  refine (since_nil w1 0).mono ?_
  rintro e w2 ⟨rfl, rfl⟩
  go_wp2_with fail
  refine (at_nil w1 0).mono ?_
  rintro e w2 ⟨rfl, rfl⟩
  go_wp2_with fail
  refine (most_nil w1).mono ?_
  rintro e w2 ⟨rfl, rfl⟩
  go_wp2_with fail
  refine (clone_nil w1).mono ?_
  rintro e w2 ⟨rfl, rfl⟩
  go_wp2
  go_ret
  exact ⟨rfl, HK1.out⟩
set_option maxHeartbeats 16000000 in
theorem plays_ok (W : World) (nb : Nat) (n : Int) (hnb : 1 ≤ nb ∧ nb ≤ 64) (hn : mkNum n = true) (v : Value) (l : List Opv) (hl : OpsAt W v l) : Calls Try.prog 3 #[.int .i64 nb, .int .i64 n, v] W fun e w' => e = .returned (.bool true) ∧ Kept (fun _ => False) W w' := by
  obtain ⟨va, vc, rfl⟩ := hl.slice
  have hlm := hl.2.2
  have HL := hide hl
  have Hnb := hide hnb
  have Hn := hide hn
  have hnbI : (nb : Int) ≤ 64 := by omega
  obtain ⟨i38, hi38, hz38, hs38, hb38⟩ := info_parts Try.info38
  have Hi38 := hide hi38
  have Hz38 := hide hz38
  clear hl hnb hn hi38 hz38 hs38 hb38
  go_enter Try.func3, Try.ntmps3
  go_wp2_with fail
  refine (first_at W).mono ?_
  rintro e w1 ⟨rfl, hk1⟩
  have HK1 := hide hk1
  clear hk1
  go_wp2_with fail
  refine (mnew_ok w1 nb n Hnb.out Hn.out).mono ?_
  rintro e w2 ⟨b, g, rfl, hk2, hb2, hg2, hm2⟩
  have HK2 := hide (HK1.out.trans hk2 (fun _ _ h => h))
  have HM2 := hide hm2
  have HBG := hide (And.intro (Nat.le_trans HK1.out.size hb2) (Nat.le_trans HK1.out.size hg2))
  clear hk2 hb2 hg2 hm2 HK1
  go_wp2_with fail
  refine (rnew_ok w2 nb n Hnb.out Hn.out).mono ?_
  rintro e w3 ⟨x, rfl, hg3⟩
  rcases ownsRow_blk hg3.1 with ⟨_, h0, _⟩ | ⟨xg, xc, xC, rfl, -⟩
  · rw [List.length_replicate] at h0; have := Hnb.out; omega
  have HM3 := hide (HM2.out.kept hg3.2.2)
  have hxg := hg3.2.1 xg rfl
  have hgl := HM2.out.2.1.lt
  have Hxg := hide (show xg ≠ g by omega)
  rw [List.length_replicate] at hg3 ⊢
  have hgx := hg3.weak HK2.out
  have HG3 := hide hgx
  clear hg3 hxg hgl HM2 HK2 hgx
  go_wp2_with fail
  refine (clone_at w3 b g nb [] _ HM3.out (by rw [List.length_replicate]; exact Hnb.out.1)).mono ?_
  rintro e w4 ⟨b', g', cap', C', rfl, hb', hg', hst, hk4⟩
  have hgl := HM3.out.2.1.lt
  have HS0 : Hid (MSt W w4 b g b' g' cap' C' nb n (List.replicate nb n) xg xc) := hide
    { len := List.length_replicate, nn := fun x hx => by rw [List.eq_of_mem_replicate hx]; exact (of_decide_eq_true Hn.out).1, mm := HM3.out.kept hk4, st := hst, gx := HG3.out.kept hk4, ne := Hxg.out, ng := by omega, lt := HBG.out.2 }
  clear hb' hg' hst hk4 hgl HM3 HG3 Hxg HBG
  go_wp2
  go_loopw [9, 73] (fun o i wr => ∃ (k : Nat) (L : List Int) (xg xc : Nat), i = .int .i64 k ∧ k ≤ l.length ∧ o = .slice (some ⟨xg, 0, none⟩) nb xc ∧ Hid (MSt W wr b g b' g' cap' C' nb n L xg xc)) (fun _ i _ => l.length - (intOf i).toNat)
  case atStart => exact ⟨0, _, xg, xc, rfl, Nat.zero_le _, rfl, HS0⟩
  case round =>
    clear HS0
    obtain ⟨k, L, xg, xc, rfl, hk, rfl, HS⟩ := hrel
    by_cases hlt : k < l.length
    · skip
      obtain ⟨ga, off, rfl, c0, c1, hbs, hsn⟩ := (HL.out.kept HS.out.gx.2.2).get hlt
      have HBS := hide hbs
      obtain ⟨p, hp⟩ : ∃ p, p = l[k].n := ⟨_, rfl⟩
      obtain ⟨ws, hws⟩ : ∃ ws, ws = l[k].ws := ⟨_, rfl⟩
      obtain ⟨⟨pa, pn, pc⟩, hs⟩ : ∃ s, s = l[k].s := ⟨_, rfl⟩
      rw [← hs, ← hws] at HBS hsn
      rw [← hp] at c0
      rw [← hs] at c1
      simp only at c1 hsn
      subst hsn
      have HVX : Hid (∀ j, vX (.slice pa ws.length pc) j → 0 < ws.length → j ≠ g) := hide (fun j hj h0 e => by
        have h := (HL.out.2.1 l[k] (List.getElem_mem hlt))
        rw [← hs, ← hws] at h
        have := h.vx j hj h0
        have := HS.out.lt
        omega)
      clear hbs hp hs hws
      by_cases h30 : 30 ≤ k
      · have h30I : (30 : Int) ≤ (k : Int) := by omega
        go_wp2_with (first
          | ((with_reducible refine aw_alloc (t := 38) (dst := some 13) Hi38.out Hz38.out ?_); intro w3 hw3 hk3 hz3; have Hz3 := hide hz3; clear hz3 c0 c1)
          | ((with_reducible refine aw_store (M := [.int .i64 p, .slice pa ws.length pc]) Try.agg38 rfl rfl rfl (by simp [Value.oneCell']) hw3 (by simp [Value.cells]) ?_); intro w4 hw4 hk4 hz4; rw [put_whole _ _ (by simp [Value.cells])] at hw4; have HK34 := hide (hk3.trans hk4 (S := fun _ => False) (fun i hi h => by omega)); have e0 : w4.cell? ⟨wr.heap.size, 0, none⟩ = some (.int .i64 p) := hw4.cell 0; have e1 : w4.cell? ⟨wr.heap.size, 1, none⟩ = some (.slice pa ws.length pc) := hw4.cell 1; have HW4 := hide hw4; clear hz4 hw3 hk3 hk4 hw4))
        go_ret
        exact ⟨rfl, HS.out.gx.2.2.trans HK34.out (fun _ _ h => h)⟩
      · have h30I : ¬ (30 : Int) ≤ (k : Int) := by omega
        by_cases hw30 : 30 < ws.length
        · have hw30I : (30 : Int) < (ws.length : Int) := by omega
          go_wp2_with (first
            | ((with_reducible refine aw_alloc (t := 38) (dst := some 13) Hi38.out Hz38.out ?_); intro w3 hw3 hk3 hz3; have Hz3 := hide hz3; clear hz3 c0 c1)
            | ((with_reducible refine aw_store (M := [.int .i64 p, .slice pa ws.length pc]) Try.agg38 rfl rfl rfl (by simp [Value.oneCell']) hw3 (by simp [Value.cells]) ?_); intro w4 hw4 hk4 hz4; rw [put_whole _ _ (by simp [Value.cells])] at hw4; have HK34 := hide (hk3.trans hk4 (S := fun _ => False) (fun i hi h => by omega)); have e0 : w4.cell? ⟨wr.heap.size, 0, none⟩ = some (.int .i64 p) := hw4.cell 0; have e1 : w4.cell? ⟨wr.heap.size, 1, none⟩ = some (.slice pa ws.length pc) := hw4.cell 1; have HW4 := hide hw4; clear hz4 hw3 hk3 hk4 hw4))
          go_ret
          exact ⟨rfl, HS.out.gx.2.2.trans HK34.out (fun _ _ h => h)⟩
        · have hw30I : ¬ (30 : Int) < (ws.length : Int) := by omega
          obtain ⟨er, her⟩ : ∃ er, mkErr L p (bks ws) = er := ⟨_, rfl⟩
          obtain ⟨L', hL'⟩ : ∃ L', mkNote L p (bks ws) = L' := ⟨_, rfl⟩
          have Her := hide her
          have HL' := hide hL'
          clear her hL'
          go_wp2_with (first
            | ((with_reducible refine aw_alloc (t := 38) (dst := some 13) Hi38.out Hz38.out ?_); intro w3 hw3 hk3 hz3; have Hz3 := hide hz3; clear hz3 c0 c1)
            | ((with_reducible refine aw_store (M := [.int .i64 p, .slice pa ws.length pc]) Try.agg38 rfl rfl rfl (by simp [Value.oneCell']) hw3 (by simp [Value.cells]) ?_); intro w4 hw4 hk4 hz4; rw [put_whole _ _ (by simp [Value.cells])] at hw4; have HK34 := hide (hk3.trans hk4 (S := fun _ => False) (fun i hi h => by omega)); have e0 : w4.cell? ⟨wr.heap.size, 0, none⟩ = some (.int .i64 p) := hw4.cell 0; have e1 : w4.cell? ⟨wr.heap.size, 1, none⟩ = some (.slice pa ws.length pc) := hw4.cell 1; have HW4 := hide hw4; clear hz4 hw3 hk3 hk4 hw4)
            | fail)
          refine (rnote_at w4 ⟨xg, 0, none⟩ nb xc L (HS.out.kept HK34.out).gx.src ⟨by rw [HS.out.len]; exact Hnb.out.1, by rw [HS.out.len]; exact Hnb.out.2⟩ p _ ws (HBS.out.kept HK34.out)).mono ?_
          rintro e w5 ⟨v', he, hv1, hv2, hk5⟩
          rw [Her.out] at he
          subst he
          have HV1 := hide hv1
          have HV2 := hide hv2
          have HK5 := hide hk5
          have HK45 := hide (HK34.out.trans hk5 (fun _ _ h => h))
          have HW5 := hide (hk5.blk HW4.out (fun h => h))
          have f0 : w5.cell? ⟨wr.heap.size, 0, none⟩ = some (.int .i64 p) := HW5.out.cell 0
          have f1 : w5.cell? ⟨wr.heap.size, 1, none⟩ = some (.slice pa ws.length pc) := HW5.out.cell 1
          clear hv1 hv2 hk5 e0 e1
          go_wp2_with fail
          refine (note_at w5 b g nb [] L (HS.out.kept HK45.out).mm p _ ws (HBS.out.kept HK45.out) HVX.out).mono ?_
          rintro e w6 ⟨he, hm6, hk6⟩
          rw [Her.out] at he
          subst he
          have hwg : wr.heap.size ≠ g := by have := HS.out.mm.2.1.lt; omega
          have HW6 := hide (hk6.blk HW5.out hwg)
          obtain ⟨xg', xc', rfl, hst6⟩ := (HS.out.kept HK34.out).note Hnb.out.1 HV1.out HV2.out HK5.out hm6 hk6
          rw [HL'.out] at hst6
          have HS6 := hide hst6
          have hL0 := HS6.out.nn
          have HLn := hide HS6.out.len
          clear hm6 hk6 hst6 HV1 HV2 f0 f1 hwg HW5 HK5 HK45 HW4 HK34 hL0
          obtain ⟨ob, hob⟩ : ∃ ob, wr.heap.size = ob := ⟨_, rfl⟩
          rw [hob] at HW6
          rw [hob]
          clear hob HS Her
          go_wp2
          go_loopw [16, 17] (fun o q wq => ∃ j mo : Int, q = .int .i64 j ∧ -1 ≤ j ∧ j ≤ nb + 1 ∧ o = .int .i64 mo ∧ Hid (mo = mst L' j) ∧ w6 = wq) (fun _ q _ => ((nb : Int) + 1 - intOf q).toNat)
          case atStart => exact ⟨-1, 0, rfl, Int.le_refl _, by omega, rfl, hide rfl, rfl⟩
          case round =>
            obtain ⟨j, mo, rfl, hj1, hj2, rfl, HMo, rfl⟩ := hrel
            by_cases hj : j ≤ (nb : Int)
            · skip
              have HST := hide (mst_step (L := L') hj1)
              rw [← HMo.out] at HST
              have hwj : IntKind.i64.wrap (j + 1) = j + 1 := by rw [IntKind.wrap_i64]; omega
              by_cases hj0 : 0 ≤ j
              · by_cases hjn : j < (nb : Int)
                · skip
                  obtain ⟨m, rfl⟩ : ∃ m : Nat, j = m := ⟨j.toNat, by omega⟩
                  have hml : m < L'.length := by rw [HLn.out]; omega
                  have hmn : m < nb := by omega
                  obtain ⟨gg, gf, hgg, c2⟩ := srcz HS6.out.gx.src hml
                  cases hgg
                  have HWt : Hid (mkAt L' (m : Int) = L'[m]) := hide (by
                    unfold mkAt
                    rw [if_pos (show mkIn L'.length (m : Int) = true from decide_eq_true (by omega))]
                    simp [hml])
                  obtain ⟨x, hx⟩ : ∃ x, L'[m] = x := ⟨_, rfl⟩
                  rw [hx] at c2 HWt
                  clear hml hx
                  try rw [Nat.zero_add] at c2
                  obtain ⟨mx, hmx⟩ : ∃ mx, max mo x = mx := ⟨_, rfl⟩
                  have HMX := hide hmx
                  rw [HWt.out, hmx] at HST
                  have HAt := hide (at_eq w6 b g nb [] L' HS6.out.mm (m : Int) x HWt.out)
                  clear hmx
                  go_wp2_with (first | (with_reducible refine wpList_run rfl (r_max3 (r := mx) rfl rfl HMX.out) ?_) | fail)
                  refine HAt.out.mono ?_
                  rintro e wz ⟨rfl, rfl⟩
                  go_wp2
                  go_roundw
                  case rel => exact ⟨(m : Int) + 1, mx, by simp, by omega, by omega, rfl, hide HST.out.symm, trivial⟩
                  case measure => simp [intOf]; omega
                · skip
                  have HWt : Hid (mkAt L' j = -1) := hide (by
                    unfold mkAt
                    rw [show mkIn L'.length j = false from decide_eq_false (by rw [HLn.out]; omega)]
                    rfl)
                  obtain ⟨mx, hmx⟩ : ∃ mx, max mo (-1) = mx := ⟨_, rfl⟩
                  have HMX := hide hmx
                  rw [HWt.out, hmx] at HST
                  have HAt := hide (at_eq w6 b g nb [] L' HS6.out.mm j (-1) HWt.out)
                  clear hmx
                  go_wp2_with (with_reducible refine wpList_run rfl (r_max3 (r := mx) rfl rfl HMX.out) ?_)
                  refine HAt.out.mono ?_
                  rintro e wz ⟨rfl, rfl⟩
                  go_wp2
                  go_roundw
                  case rel => exact ⟨j + 1, mx, by simp, by omega, by omega, rfl, hide HST.out.symm, trivial⟩
                  case measure => simp [intOf]; omega
              · skip
                have HWt : Hid (mkAt L' j = -1) := hide (by
                  unfold mkAt
                  rw [show mkIn L'.length j = false from decide_eq_false (by omega)]
                  rfl)
                obtain ⟨mx, hmx⟩ : ∃ mx, max mo (-1) = mx := ⟨_, rfl⟩
                have HMX := hide hmx
                rw [HWt.out, hmx] at HST
                have HAt := hide (at_eq w6 b g nb [] L' HS6.out.mm j (-1) HWt.out)
                clear hmx
                go_wp2_with (with_reducible refine wpList_run rfl (r_max3 (r := mx) rfl rfl HMX.out) ?_)
                refine HAt.out.mono ?_
                rintro e wz ⟨rfl, rfl⟩
                go_wp2
                go_roundw
                case rel => exact ⟨j + 1, mx, by simp, by omega, by omega, rfl, hide HST.out.symm, trivial⟩
                case measure => simp [intOf]; omega
            · skip
              have HM : Hid (mkMost L' = mo) := hide (by rw [HMo.out]; exact (mst_all (by rw [HLn.out]; exact Hnb.out.1) HS6.out.nn (by rw [HLn.out]; omega)).symm)
              have HMc := hide (fun (w' : World) (hk : Kept (fun _ => False) w6 w') => most_eq w' b g nb [] L' (HS6.out.mm.kept hk) mo HM.out)
              obtain ⟨p1, hp1⟩ : ∃ p1, IntKind.i64.wrap (p - 1) = p1 := ⟨_, rfl⟩
              have Hp1 := hide hp1
              obtain ⟨S, hS⟩ : ∃ S, mkSince L' p1 = S := ⟨_, rfl⟩
              have HSi := hide hS
              clear hp1 hS HMo HM
              go_wp2_with fail
              refine hold_frame (p := fun fr => Code.wp Try.prog _ _ fr _) ?_
              intro fr hfr
              have e7 : fr.eval (.tmp 7) = .pointer (some ⟨b, 0, none⟩) := by rw [hfr.out]; rfl
              have e9 : fr.eval (.tmp 9) = .slice (some ⟨xg', 0, none⟩) nb xc' := by rw [hfr.out]; rfl
              have e13 : fr.eval (.tmp 13) = .pointer (some ⟨ob, 0, none⟩) := by rw [hfr.out]; rfl
              have hts : fr.tmps.size = 178 := by rw [hfr.out]; rfl
              refine Code.wp_mono (Q := fun e a' w' => e = .normal ∧ ∃ va vb : Value, a' = ((((((((((((fr.put (some 128) (.pointer (some ⟨b, 0, none⟩))).put (some 129) (.pointer (some ⟨ob, 0, none⟩))).put (some 130) (.int .i64 p)).put (some 131) (.int .i64 p1)).put (some 133) (.slice (some ⟨xg', 0, none⟩) nb xc')).put (some 134) (.pointer (some ⟨ob, 0, none⟩))).put (some 135) (.int .i64 p)).put (some 136) (.int .i64 p1)).put (some 132) va).put (some 137) vb).put (some 19) va).put (some 20) vb) ∧ GathZ w6 w' va S ∧ GathZ w6 w' vb S) ?rest ?first
              case first =>
                refine region_S0 99 Try.mixed ?_
                intro w0 hkw hheap
                have hS0 : Kept (fun _ => False) w0 w0 := Kept.refl (fun _ => False) w0
                refine ⟨Kept (fun _ => False) w0, ?_⟩
                refine tkS 0 128 (v := .pointer (some ⟨b, 0, none⟩)) hS0 rfl rfl (by kernel_rfl) (by kernel_rfl) (by kernel_rfl) (by kernel_rfl) (wanted_none rfl) (fun _ _ _ h => absurd h.1 (by simp)) (fun U hU => r_move (by simp [eval_put_ne, eval_put_eq, size_put, hts, e7])) ?_
                refine tkS 1 129 (v := .pointer (some ⟨ob, 0, none⟩)) hS0 rfl rfl (by kernel_rfl) (by kernel_rfl) (by kernel_rfl) (by kernel_rfl) (wanted_none rfl) (fun _ _ _ h => absurd h.1 (by simp)) (fun U hU => r_fop (by simp [eval_put_ne, eval_put_eq, size_put, hts, e13])) ?_
                refine tkS 2 130 (v := .int .i64 p) hS0 rfl rfl (by kernel_rfl) (by kernel_rfl) (by kernel_rfl) (by kernel_rfl) (wanted_none rfl) (fun _ _ _ h => absurd h.1 (by simp)) (fun U hU => r_ld3 (a := ⟨ob, 0, none⟩) (by simp [eval_put_ne, eval_put_eq, size_put, hts]) ((hU.blk (hkw.blk HW6.out (fun h => h)) (fun h => h)).cell 0)) ?_
                refine tkS 3 131 (v := .int .i64 p1) hS0 rfl rfl (by kernel_rfl) (by kernel_rfl) (by kernel_rfl) (by kernel_rfl) (wanted_none rfl) (fun _ _ _ h => absurd h.1 (by simp)) (fun U hU => r_sub3 (by simp [eval_put_ne, eval_put_eq, size_put, hts]) rfl Hp1.out) ?_
                refine tkS 5 133 (v := (.slice (some ⟨xg', 0, none⟩) nb xc')) hS0 rfl rfl (by kernel_rfl) (by kernel_rfl) (by kernel_rfl) (by kernel_rfl) (wanted_none rfl) (fun _ _ _ h => absurd h.1 (by simp)) (fun U hU => r_move (by simp [eval_put_ne, eval_put_eq, size_put, hts, e9])) ?_
                refine tkS 6 134 (v := .pointer (some ⟨ob, 0, none⟩)) hS0 rfl rfl (by kernel_rfl) (by kernel_rfl) (by kernel_rfl) (by kernel_rfl) (wanted_none rfl) (fun _ _ _ h => absurd h.1 (by simp)) (fun U hU => r_fop (by simp [eval_put_ne, eval_put_eq, size_put, hts, e13])) ?_
                refine tkS 7 135 (v := .int .i64 p) hS0 rfl rfl (by kernel_rfl) (by kernel_rfl) (by kernel_rfl) (by kernel_rfl) (wanted_none rfl) (fun _ _ _ h => absurd h.1 (by simp)) (fun U hU => r_ld3 (a := ⟨ob, 0, none⟩) (by simp [eval_put_ne, eval_put_eq, size_put, hts]) ((hU.blk (hkw.blk HW6.out (fun h => h)) (fun h => h)).cell 0)) ?_
                refine tkS 8 136 (v := .int .i64 p1) hS0 rfl rfl (by kernel_rfl) (by kernel_rfl) (by kernel_rfl) (by kernel_rfl) (wanted_none rfl) (fun _ _ _ h => absurd h.1 (by simp)) (fun U hU => r_sub3 (by simp [eval_put_ne, eval_put_eq, size_put, hts]) rfl Hp1.out) ?_
                refine oneCS 4 132 (by kernel_rfl) rfl rfl (wanted_none rfl) (r_call2 Try.func9 (by kernel_rfl) rfl rfl (by simp [eval_put_ne, eval_put_eq, size_put, hts]) (by simp [eval_put_ne, eval_put_eq, size_put, hts])) (since_at w0 b g nb [] L' (HS6.out.mm.kept hkw) p1) ?_
                rintro e v1 ⟨va, rfl, ga1⟩
                rw [HSi.out] at ga1
                refine ⟨va, rfl, ga1.2.2, ?_⟩
                refine oneCS 9 137 (by kernel_rfl) rfl rfl (wanted_none rfl) (r_call2 Try.func14 (by kernel_rfl) rfl rfl (by simp [eval_put_ne, eval_put_eq, size_put, hts]) (by simp [eval_put_ne, eval_put_eq, size_put, hts])) (rsince_at v1 _ L' (HS6.out.kept (hkw.trans ga1.2.2 (fun _ _ h => h))).gx.src (by rw [HLn.out]; exact Hnb.out.2) p1) ?_
                rintro e v2 ⟨vb, rfl, gb1⟩
                rw [HSi.out] at gb1
                have hS2 : Kept (fun _ => False) w0 v2 := ga1.2.2.trans gb1.2.2 (fun _ _ h => h)
                refine ⟨vb, rfl, hS2, ?_⟩
                have GA := (ga1.kept gb1.2.2).weak hkw
                have GB := gb1.weak (hkw.trans ga1.2.2 (fun _ _ h => h))
                refine tkS 10 19 (v := va) hS2 rfl rfl (by kernel_rfl) (by kernel_rfl) (by kernel_rfl) (by kernel_rfl) (wanted_none rfl) (fun _ _ _ h => absurd h.1 (by simp)) (fun U hU => r_assign (by simp [eval_put_ne, eval_put_eq, size_put, hts])) ?_
                refine tkS 11 20 (v := vb) hS2 rfl rfl (by kernel_rfl) (by kernel_rfl) (by kernel_rfl) (by kernel_rfl) (wanted_none rfl) (fun _ _ _ h => absurd h.1 (by simp)) (fun U hU => r_assign (by simp [eval_put_ne, eval_put_eq, size_put, hts])) ?_
                refine doneS (by kernel_rfl) ?_
                refine ⟨rfl, va, vb, ?_, GA, GB⟩
                rw [hfr.out]
                try simp only [put_lit, put_none, List.set_cons_succ, List.set_cons_zero]
              case rest =>
                rintro e a' w7 ⟨rfl, va, vb, rfl, ga, gb⟩
                rw [hfr.out]
                clear hfr e7 e9 e13 hts fr
                simp only [put_lit, put_none, List.set_cons_succ, List.set_cons_zero]
                obtain ⟨aa, ca, ab, cb, rfl, rfl⟩ := since_same (w' := w7) ga gb
                have HGA := hide ga
                have HGB := hide gb
                have HS7 := hide (HS6.out.kept ga.2.2)
                have HMc7 := hide (HMc.out w7 ga.2.2)
                have f0 : w7.cell? ⟨ob, 0, none⟩ = some (.int .i64 p) := (ga.2.2.blk HW6.out (fun h => h)).cell 0
                clear ga gb HMc HW6 HS6
                by_cases hN : p < -4611686018427387904
                · skip
                  go_wp2_with fail
                  refine HMc7.out.mono ?_
                  rintro e wz ⟨rfl, rfl⟩
                  clear f0
                  go_wp2
                  go_loopw [154] (fun q wq => q = .int .i64 0 ∧ w7 = wq) (fun q _ => 0)
                  case atStart => exact ⟨rfl, rfl⟩
                  case round =>
                    obtain ⟨rfl, rfl⟩ := hrel
                    go_wp2
                    go_roundw
                    case rel => exact ⟨k + 1, L', xg', xc', by simp, by omega, rfl, HS7⟩
                    case measure => simp [intOf]; omega
                · skip
                  go_wp2_with fail
                  refine HMc7.out.mono ?_
                  rintro e wz ⟨rfl, rfl⟩
                  clear f0
                  go_wp2
                  go_loopw [154] (fun q wq => ∃ m : Nat, q = .int .i64 m ∧ m ≤ S.length ∧ Hid (Kept (fun _ => False) w7 wq)) (fun q _ => S.length - (intOf q).toNat)
                  case atStart => exact ⟨0, rfl, Nat.zero_le _, hide (Kept.refl _ _)⟩
                  case round =>
                    obtain ⟨m, rfl, hm, HK7⟩ := hrel
                    by_cases hms : m < S.length
                    · obtain ⟨g1, o1, rfl, d1⟩ := srcz (HGA.out.kept HK7.out).src hms
                      obtain ⟨g2, o2, rfl, d2⟩ := srcz (HGB.out.kept HK7.out).src hms
                      obtain ⟨x, hx⟩ : ∃ x, S[m] = x := ⟨_, rfl⟩
                      rw [hx] at d1 d2
                      clear hx
                      have hsl : S.length ≤ 64 := by rw [← HSi.out]; exact Nat.le_trans (since_len _ _) (by rw [HLn.out]; exact Hnb.out.2)
                      have hmI : (m : Int) < (S.length : Int) := by omega
                      go_wp2_with fail
                      go_region
                      go_wp2
                      go_roundw
                      case rel => exact ⟨m + 1, by simp, by omega, hide HK7.out.drew⟩
                      case measure => simp [intOf]; omega
                    · obtain rfl : m = S.length := by omega
                      go_wp2
                      go_roundw
                      case rel => exact ⟨k + 1, L', xg', xc', by simp, by omega, rfl, hide (HS7.out.kept HK7.out)⟩
                      case measure => simp [intOf]; omega
    · skip
      obtain rfl : k = l.length := by omega
      have HA0 := hide (at_eq wr b' g' cap' C' _ HS.out.st 0 n (mkAt_rep Hnb.out.1))
      have HM0 := hide (most_eq wr b' g' cap' C' _ HS.out.st n (mkMost_rep Hnb.out.1 (of_decide_eq_true Hn.out).1))
      go_wp2_with fail
      refine HA0.out.mono ?_
      rintro e wz ⟨rfl, rfl⟩
      go_wp2_with fail
      refine HM0.out.mono ?_
      rintro e wz ⟨rfl, rfl⟩
      go_wp2
      go_ret
      exact ⟨by simp, HS.out.gx.2.2⟩
end Go.Proofs.Yteijgdfgdhafnaa
