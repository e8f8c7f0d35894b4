/-
  Diff, Same, of package image.
-/
import Derived.Test.YtlpjhgcafkdhdaaIOps
namespace Go.Proofs.Ytlpjhgcafkdhdaa
open Go.RowKit Go.Shelf
set_option linter.unusedSimpArgs false
set_option linter.unusedVariables false
set_option maxRecDepth 100000

set_option maxHeartbeats 4000000 in
theorem diff_at (w : World) (P1 P2 : Value) (n m : Nat) (A B : List Nat) (hA : DkAt w P1 n A) (hB : DkAt w P2 m B) :
    Calls Try.prog 17 #[P1, P2] w fun e w' => ∃ v, e = .returned v ∧ Gath w w' v (diffB n A m B) := by
  have HA := hide hA
  have HB := hide hB
  have Hha := hide (fun (w' : World) (hk : Kept (fun _ => False) w w') (k : Int) (r : Bool) (hr : decide (0 ≤ k ∧ k < n) = r) => has_at w' _ n A (HA.out.kept hk) k r hr)
  have Hhb := hide (fun (w' : World) (hk : Kept (fun _ => False) w w') (k : Int) (r : Bool) (hr : decide (0 ≤ k ∧ k < m) = r) => has_at w' _ m B (HB.out.kept hk) k r hr)
  have Hba := hide (blocks_at w _ n A HA.out)
  have Hbb := hide (blocks_at w _ m B HB.out)
  have hn64 := hA.le
  have hm64 := hB.le
  obtain ⟨mx, hmx⟩ : ∃ mx, max n m = mx := ⟨_, rfl⟩
  have HMX := hide hmx
  have hmx1 : n ≤ mx ∧ m ≤ mx ∧ mx ≤ 64 := by omega
  have HM1 := hide hmx1
  have Hres : Hid (diffTo n A m B mx = diffB n A m B) := hide (by rw [← HMX.out]; rfl)
  obtain ⟨i3, hi3, hz3, hs3, hb3⟩ := info_parts Try.info3
  have Hi3 := hide hi3
  have Hz3 := hide hz3
  have Hs3 := hide hs3
  have Hb3 := hide hb3
  clear hA hB hmx hmx1 hi3 hz3 hs3 hb3 hn64 hm64
  go_enter Try.func17, Try.ntmps17
  go_wp2_with (first
    | (go_at_call 11; (first | (refine Hba.out.mono ?_; rintro e w1 ⟨rfl, rfl⟩; clear Hba) | (refine Hbb.out.mono ?_; rintro e w1 ⟨rfl, rfl⟩)))
    | (with_reducible refine wpList_run rfl (r_max3 (r := (mx : Nat)) rfl rfl (by have := HMX.out; omega)) ?_))
  have hmxI : (mx : Int) ≤ 64 := by have := HM1.out; omega
  go_loopw [5, 12] (fun o i wr => ∃ k : Nat, i = .int .i64 k ∧ k ≤ mx ∧ Hid (Gath w wr o (diffTo n A m B k)))
    (fun o i _ => mx - (intOf i).toNat)
  case atStart => exact ⟨0, rfl, Nat.zero_le _, hide (Gath.nil _ _ (Kept.refl _ _))⟩
  case round =>
    obtain ⟨k, rfl, hk, HG⟩ := hrel
    obtain ⟨oa, oc, rfl⟩ := ownsRow_slice HG.out.1
    by_cases hlt : k < mx
    · have hsucc := hide (diffTo_succ n A m B k)
      have Hlen := hide (diffTo_len n A m B k)
      have push : ∀ (wx w' : World) (o' : Value), Kept (fun _ => False) wr wx → w'.ownsRow 0 3 1 o' ((diffTo n A m B k).length + 1) (IV (diffTo n A m B k) ++ [.int .i64 k]) → Kept (fun j => (Value.slice oa (diffTo n A m B k).length oc).ownBlock = some j) wx w' → (∀ j, o'.ownBlock = some j → (Value.slice oa (diffTo n A m B k).length oc).ownBlock = some j ∨ wx.heap.size ≤ j) → unlikeB n A m B k = true → Gath w w' o' (diffTo n A m B (k + 1)) := by
        intro wx w' o' h1 h2 h3 h4 h5
        rw [hsucc.out, if_pos h5]
        exact (HG.out.kept h1).push h2 h3 h4
      have HPush := hide push
      clear push
      by_cases h1 : k < n
      · by_cases h2 : k < m
        · obtain ⟨r, hr⟩ : ∃ r, (!decide (getB A k = getB B k)) = r := ⟨_, rfl⟩
          have Hr := hide hr
          have Hun : Hid (unlikeB n A m B k = r) := hide (by rw [← hr]; simp [unlikeB, h1, h2])
          have Hh1 := hide (fun (w' : World) (hk : Kept (fun _ => False) wr w') => Hha.out w' (HG.out.2.2.trans hk (fun _ _ h => h)) k true (by simp; omega))
          have Hh2 := hide (fun (w' : World) (hk : Kept (fun _ => False) wr w') => Hhb.out w' (HG.out.2.2.trans hk (fun _ _ h => h)) k true (by simp; omega))
          have hHA := HA.out
          have hHB := HB.out
          rcases hHA with ⟨rfl, _⟩ | ⟨_, _, hl1, _, b1, g1, cap1, C1, rfl, hs1, hb1, _⟩
          · omega
          rcases hHB with ⟨rfl, _⟩ | ⟨_, _, hl2, _, b2, g2, cap2, C2, rfl, hs2, hb2, _⟩
          · omega
          have HS_b1 := hide (fun (U : World) (hU : Kept (fun _ => False) wr U) => (HG.out.2.2.trans hU (fun _ _ h => h)).blk hs1 (fun h => h))
          have HS_b2 := hide (fun (U : World) (hU : Kept (fun _ => False) wr U) => (HG.out.2.2.trans hU (fun _ _ h => h)).blk hs2 (fun h => h))
          have HB_b1 := hide (fun (U : World) (hU : Kept (fun _ => False) wr U) => (HG.out.2.2.trans hU (fun _ _ h => h)).blk hb1 (fun h => h))
          have HB_b2 := hide (fun (U : World) (hU : Kept (fun _ => False) wr U) => (HG.out.2.2.trans hU (fun _ _ h => h)).blk hb2 (fun h => h))
          have HL_b1 := hide hl1
          have HL_b2 := hide hl2
          clear hs1 hs2 hb1 hb2 hl1 hl2 hr
          go_wp2_with fail
          refine hold_frame (p := fun fr => Code.wp Try.prog _ _ fr _) ?_
          intro fr hfr
          have e0 : fr.eval (.tmp 0) = .pointer (some ⟨b1, 0, none⟩) := by rw [hfr.out]; rfl
          have e1 : fr.eval (.tmp 1) = .pointer (some ⟨b2, 0, none⟩) := by rw [hfr.out]; rfl
          have e6 : fr.eval (.tmp 6) = .int .i64 k := by rw [hfr.out]; rfl
          have hts : fr.tmps.size = 48 := by rw [hfr.out]; rfl
          refine region_S0 99 Try.mixed ?_
          intro w0 hkw hheap
          have hS0 : Kept (fun _ => False) w0 w0 := Kept.refl (fun _ => False) w0
          refine ⟨Kept (fun _ => False) w0, ?_⟩
          refine tkS 0 15 (v := .pointer (some ⟨b1, 0, none⟩)) hS0 rfl rfl (by kernel_rfl) (by kernel_rfl) (by kernel_rfl) (by kernel_rfl) (wanted_none rfl) (fun _ _ _ h => h) (fun U hU => r_move (by simp [eval_put_ne, eval_put_eq, size_put, hts, e0])) ?_
          refine tkS 1 16 (v := .int .i64 k) hS0 rfl rfl (by kernel_rfl) (by kernel_rfl) (by kernel_rfl) (by kernel_rfl) (wanted_none rfl) (fun _ _ _ h => h) (fun U hU => r_move (by simp [eval_put_ne, eval_put_eq, size_put, hts, e6])) ?_
          refine oneCS 2 17 (by kernel_rfl) rfl rfl (wanted_none rfl) (r_call2 Try.func23 (by kernel_rfl) rfl rfl (by simp [eval_put_ne, eval_put_eq, size_put, hts]) (by simp [eval_put_ne, eval_put_eq, size_put, hts])) (Hh1.out w0 hkw) ?_
          rintro e v1 ⟨rfl, rfl⟩
          refine ⟨_, rfl, hS0, ?_⟩
          refine tkS 3 18 (v := .bool false) hS0 rfl rfl (by kernel_rfl) (by kernel_rfl) (by kernel_rfl) (by kernel_rfl) (wanted_none rfl) (fun _ _ _ h => h) (fun U hU => r_not (b := true) (by simp [eval_put_ne, eval_put_eq, size_put, hts])) ?_
          refine tkS 4 19 (v := .bool false) hS0 rfl rfl (by kernel_rfl) (by kernel_rfl) (by kernel_rfl) (by kernel_rfl) (wanted_none rfl) (fun _ _ _ h => h) (fun U hU => r_move (by simp [eval_put_ne, eval_put_eq, size_put, hts])) ?_
          refine tkS 5 20 (v := .pointer (some ⟨b2, 0, none⟩)) hS0 rfl rfl (by kernel_rfl) (by kernel_rfl) (by kernel_rfl) (by kernel_rfl) (wanted_some (j := 4) (d := 19) (bb := false) rfl rfl rfl (by simp [eval_put_ne, eval_put_eq, size_put, hts]) (by simp [size_put, hts])) (fun _ _ _ h => h) (fun U hU => r_move (by simp [eval_put_ne, eval_put_eq, size_put, hts, e1])) ?_
          refine tkS 6 21 (v := .int .i64 k) hS0 rfl rfl (by kernel_rfl) (by kernel_rfl) (by kernel_rfl) (by kernel_rfl) (wanted_some (j := 4) (d := 19) (bb := false) rfl rfl rfl (by simp [eval_put_ne, eval_put_eq, size_put, hts]) (by simp [size_put, hts])) (fun _ _ _ h => h) (fun U hU => r_move (by simp [eval_put_ne, eval_put_eq, size_put, hts, e6])) ?_
          refine oneCS 7 22 (by kernel_rfl) rfl rfl (wanted_some (j := 4) (d := 19) (bb := false) rfl rfl rfl (by simp [eval_put_ne, eval_put_eq, size_put, hts]) (by simp [size_put, hts])) (r_call2 Try.func23 (by kernel_rfl) rfl rfl (by simp [eval_put_ne, eval_put_eq, size_put, hts]) (by simp [eval_put_ne, eval_put_eq, size_put, hts])) (Hh2.out w0 hkw) ?_
          rintro e v1 ⟨rfl, rfl⟩
          refine ⟨_, rfl, hS0, ?_⟩
          refine tkS 8 23 (v := .bool false) hS0 rfl rfl (by kernel_rfl) (by kernel_rfl) (by kernel_rfl) (by kernel_rfl) (wanted_some (j := 4) (d := 19) (bb := false) rfl rfl rfl (by simp [eval_put_ne, eval_put_eq, size_put, hts]) (by simp [size_put, hts])) (fun _ _ _ h => h) (fun U hU => r_not (b := true) (by simp [eval_put_ne, eval_put_eq, size_put, hts])) ?_
          refine tkS 9 24 (v := .bool false) hS0 rfl rfl (by kernel_rfl) (by kernel_rfl) (by kernel_rfl) (by kernel_rfl) (wanted_none rfl) (fun _ _ _ h => h) (fun U hU => r_pickF (by simp [eval_put_ne, eval_put_eq, size_put, hts]) (by simp [eval_put_ne, eval_put_eq, size_put, hts])) ?_
          refine tkS 10 25 (v := .bool false) hS0 rfl rfl (by kernel_rfl) (by kernel_rfl) (by kernel_rfl) (by kernel_rfl) (wanted_none rfl) (fun _ _ _ h => h) (fun U hU => r_move (by simp [eval_put_ne, eval_put_eq, size_put, hts])) ?_
          refine tkS 11 26 (v := .pointer (some ⟨b1, 0, none⟩)) hS0 rfl rfl (by kernel_rfl) (by kernel_rfl) (by kernel_rfl) (by kernel_rfl) (wanted_some (j := 10) (d := 25) (bb := false) rfl rfl rfl (by simp [eval_put_ne, eval_put_eq, size_put, hts]) (by simp [size_put, hts])) (fun _ _ _ h => h) (fun U hU => r_move (by simp [eval_put_ne, eval_put_eq, size_put, hts, e0])) ?_
          refine tkS 12 27 (v := .pointer (some ⟨b1, 0, none⟩)) hS0 rfl rfl (by kernel_rfl) (by kernel_rfl) (by kernel_rfl) (by kernel_rfl) (wanted_some (j := 10) (d := 25) (bb := false) rfl rfl rfl (by simp [eval_put_ne, eval_put_eq, size_put, hts]) (by simp [size_put, hts])) (fun _ _ _ h => h) (fun U hU => r_nilChk (by simp [eval_put_ne, eval_put_eq, size_put, hts])) ?_
          refine tkS 13 28 (v := .pointer (some ⟨b1, 0, none⟩)) hS0 rfl rfl (by kernel_rfl) (by kernel_rfl) (by kernel_rfl) (by kernel_rfl) (wanted_some (j := 10) (d := 25) (bb := false) rfl rfl rfl (by simp [eval_put_ne, eval_put_eq, size_put, hts]) (by simp [size_put, hts])) (fun _ _ _ h => h) (fun U hU => r_f58 (by simp [eval_put_ne, eval_put_eq, size_put, hts])) ?_
          refine tkS 14 29 (v := .slice (some ⟨g1, 0, none⟩) n cap1) hS0 rfl rfl (by kernel_rfl) (by kernel_rfl) (by kernel_rfl) (by kernel_rfl) (wanted_some (j := 10) (d := 25) (bb := false) rfl rfl rfl (by simp [eval_put_ne, eval_put_eq, size_put, hts]) (by simp [size_put, hts])) (fun _ _ _ h => h) (fun U hU => r_ld56 (by simp [eval_put_ne, eval_put_eq, size_put, hts]) (HS_b1.out U (hkw.trans hU (fun _ _ h => h)))) ?_
          refine tkS 15 30 (v := .int .i64 k) hS0 rfl rfl (by kernel_rfl) (by kernel_rfl) (by kernel_rfl) (by kernel_rfl) (wanted_some (j := 10) (d := 25) (bb := false) rfl rfl rfl (by simp [eval_put_ne, eval_put_eq, size_put, hts]) (by simp [size_put, hts])) (fun _ _ _ h => h) (fun U hU => r_move (by simp [eval_put_ne, eval_put_eq, size_put, hts, e6])) ?_
          refine tkS 16 31 (v := .pointer (some ⟨g1, 64 * k, none⟩)) hS0 rfl rfl (by kernel_rfl) (by kernel_rfl) (by kernel_rfl) (by kernel_rfl) (wanted_some (j := 10) (d := 25) (bb := false) rfl rfl rfl (by simp [eval_put_ne, eval_put_eq, size_put, hts]) (by simp [size_put, hts])) (fun _ _ _ h => h) (fun U hU => r_ix56 (b := g1) (len := n) (cap := cap1) k (by simp [eval_put_ne, eval_put_eq, size_put, hts]) (by simp [eval_put_ne, eval_put_eq, size_put, hts]) (by omega)) ?_
          refine tkS 17 32 (v := .agg (BV (getB A k)).toArray) hS0 rfl rfl (by kernel_rfl) (by kernel_rfl) (by kernel_rfl) (by kernel_rfl) (wanted_some (j := 10) (d := 25) (bb := false) rfl rfl rfl (by simp [eval_put_ne, eval_put_eq, size_put, hts]) (by simp [size_put, hts])) (fun _ _ _ h => h) (fun U hU => r_ld62 (n := n) (by simp [eval_put_ne, eval_put_eq, size_put, hts]) (HB_b1.out U (hkw.trans hU (fun _ _ h => h))) HL_b1.out (by omega)) ?_
          refine tkS 18 33 (v := .pointer (some ⟨b2, 0, none⟩)) hS0 rfl rfl (by kernel_rfl) (by kernel_rfl) (by kernel_rfl) (by kernel_rfl) (wanted_some (j := 10) (d := 25) (bb := false) rfl rfl rfl (by simp [eval_put_ne, eval_put_eq, size_put, hts]) (by simp [size_put, hts])) (fun _ _ _ h => h) (fun U hU => r_move (by simp [eval_put_ne, eval_put_eq, size_put, hts, e1])) ?_
          refine tkS 19 34 (v := .pointer (some ⟨b2, 0, none⟩)) hS0 rfl rfl (by kernel_rfl) (by kernel_rfl) (by kernel_rfl) (by kernel_rfl) (wanted_some (j := 10) (d := 25) (bb := false) rfl rfl rfl (by simp [eval_put_ne, eval_put_eq, size_put, hts]) (by simp [size_put, hts])) (fun _ _ _ h => h) (fun U hU => r_nilChk (by simp [eval_put_ne, eval_put_eq, size_put, hts])) ?_
          refine tkS 20 35 (v := .pointer (some ⟨b2, 0, none⟩)) hS0 rfl rfl (by kernel_rfl) (by kernel_rfl) (by kernel_rfl) (by kernel_rfl) (wanted_some (j := 10) (d := 25) (bb := false) rfl rfl rfl (by simp [eval_put_ne, eval_put_eq, size_put, hts]) (by simp [size_put, hts])) (fun _ _ _ h => h) (fun U hU => r_f58 (by simp [eval_put_ne, eval_put_eq, size_put, hts])) ?_
          refine tkS 21 36 (v := .slice (some ⟨g2, 0, none⟩) m cap2) hS0 rfl rfl (by kernel_rfl) (by kernel_rfl) (by kernel_rfl) (by kernel_rfl) (wanted_some (j := 10) (d := 25) (bb := false) rfl rfl rfl (by simp [eval_put_ne, eval_put_eq, size_put, hts]) (by simp [size_put, hts])) (fun _ _ _ h => h) (fun U hU => r_ld56 (by simp [eval_put_ne, eval_put_eq, size_put, hts]) (HS_b2.out U (hkw.trans hU (fun _ _ h => h)))) ?_
          refine tkS 22 37 (v := .int .i64 k) hS0 rfl rfl (by kernel_rfl) (by kernel_rfl) (by kernel_rfl) (by kernel_rfl) (wanted_some (j := 10) (d := 25) (bb := false) rfl rfl rfl (by simp [eval_put_ne, eval_put_eq, size_put, hts]) (by simp [size_put, hts])) (fun _ _ _ h => h) (fun U hU => r_move (by simp [eval_put_ne, eval_put_eq, size_put, hts, e6])) ?_
          refine tkS 23 38 (v := .pointer (some ⟨g2, 64 * k, none⟩)) hS0 rfl rfl (by kernel_rfl) (by kernel_rfl) (by kernel_rfl) (by kernel_rfl) (wanted_some (j := 10) (d := 25) (bb := false) rfl rfl rfl (by simp [eval_put_ne, eval_put_eq, size_put, hts]) (by simp [size_put, hts])) (fun _ _ _ h => h) (fun U hU => r_ix56 (b := g2) (len := m) (cap := cap2) k (by simp [eval_put_ne, eval_put_eq, size_put, hts]) (by simp [eval_put_ne, eval_put_eq, size_put, hts]) (by omega)) ?_
          refine tkS 24 39 (v := .agg (BV (getB B k)).toArray) hS0 rfl rfl (by kernel_rfl) (by kernel_rfl) (by kernel_rfl) (by kernel_rfl) (wanted_some (j := 10) (d := 25) (bb := false) rfl rfl rfl (by simp [eval_put_ne, eval_put_eq, size_put, hts]) (by simp [size_put, hts])) (fun _ _ _ h => h) (fun U hU => r_ld62 (n := m) (by simp [eval_put_ne, eval_put_eq, size_put, hts]) (HB_b2.out U (hkw.trans hU (fun _ _ h => h))) HL_b2.out (by omega)) ?_
          refine tkS 25 40 (v := .bool r) hS0 rfl rfl (by kernel_rfl) (by kernel_rfl) (by kernel_rfl) (by kernel_rfl) (wanted_some (j := 10) (d := 25) (bb := false) rfl rfl rfl (by simp [eval_put_ne, eval_put_eq, size_put, hts]) (by simp [size_put, hts])) (fun _ _ _ h => h) (fun U hU => r_neq62 (by simp [eval_put_ne, eval_put_eq, size_put, hts]) (by simp [eval_put_ne, eval_put_eq, size_put, hts]) (getB_len HL_b1.out (by omega)) (getB_len HL_b2.out (by omega)) Hr.out) ?_
          refine tkS 26 41 (v := .bool r) hS0 rfl rfl (by kernel_rfl) (by kernel_rfl) (by kernel_rfl) (by kernel_rfl) (wanted_none rfl) (fun _ _ _ h => h) (fun U hU => r_pickF (by simp [eval_put_ne, eval_put_eq, size_put, hts]) (by simp [eval_put_ne, eval_put_eq, size_put, hts])) ?_
          refine doneS (by kernel_rfl) ?_
          rw [hfr.out]
          clear hfr e0 e1 e6 hts
          simp only [put_lit, put_none, List.set_cons_succ, List.set_cons_zero]
          have HKw := hide hkw
          clear hS0 hkw hheap
          cases r with
          | true =>
            go_wp2_with (with_reducible refine stop_bs1 40 ?_)
            refine hide ?_
            refine aw_push (v := .int .i64 k) (o := .slice oa (diffTo n A m B k).length oc) Try.underlying40 Hi3.out Hz3.out Hs3.out Hb3.out rfl (by decide) rfl rfl rfl rfl rfl (HG.out.kept HKw.out).1 (by have := Hlen.out; omega) ?_
            intro o' w' q1 q2 q3
            have HG' := hide (HPush.out _ _ _ HKw.out q1 q2 q3 Hun.out)
            obtain ⟨oa', oc', rfl⟩ := ownsRow_slice q1
            clear q1 q2 q3
            try simp only [put_lit, put_none, List.set_cons_succ, List.set_cons_zero]
            go_wp2
            go_roundw
            case rel => exact ⟨k + 1, by simp, by omega, HG'⟩
            case measure => simp [intOf]; omega
          | false =>
            go_wp2
            go_roundw
            case rel => exact ⟨k + 1, by simp, by omega, hide (by rw [hsucc.out, if_neg (by rw [Hun.out]; decide)]; exact HG.out.kept HKw.out)⟩
            case measure => simp [intOf]; omega
        · have Hun : Hid (unlikeB n A m B k = true) := hide (by simp [unlikeB, h2])
          have Hh1 := hide (fun (w' : World) (hk : Kept (fun _ => False) wr w') => Hha.out w' (HG.out.2.2.trans hk (fun _ _ h => h)) k true (by simp; omega))
          have Hh2 := hide (fun (w' : World) (hk : Kept (fun _ => False) wr w') => Hhb.out w' (HG.out.2.2.trans hk (fun _ _ h => h)) k false (by simp; omega))
          go_wp2_with fail
          refine hold_frame (p := fun fr => Code.wp Try.prog _ _ fr _) ?_
          intro fr hfr
          have e0 : fr.eval (.tmp 0) = P1 := by rw [hfr.out]; rfl
          have e1 : fr.eval (.tmp 1) = P2 := by rw [hfr.out]; rfl
          have e6 : fr.eval (.tmp 6) = .int .i64 k := by rw [hfr.out]; rfl
          have hts : fr.tmps.size = 48 := by rw [hfr.out]; rfl
          refine region_S0 99 Try.mixed ?_
          intro w0 hkw hheap
          have hS0 : Kept (fun _ => False) w0 w0 := Kept.refl (fun _ => False) w0
          refine ⟨Kept (fun _ => False) w0, ?_⟩
          refine tkS 0 15 (v := P1) hS0 rfl rfl (by kernel_rfl) (by kernel_rfl) (by kernel_rfl) (by kernel_rfl) (wanted_none rfl) (fun _ _ _ h => h) (fun U hU => r_move (by simp [eval_put_ne, eval_put_eq, size_put, hts, e0])) ?_
          refine tkS 1 16 (v := .int .i64 k) hS0 rfl rfl (by kernel_rfl) (by kernel_rfl) (by kernel_rfl) (by kernel_rfl) (wanted_none rfl) (fun _ _ _ h => h) (fun U hU => r_move (by simp [eval_put_ne, eval_put_eq, size_put, hts, e6])) ?_
          refine oneCS 2 17 (by kernel_rfl) rfl rfl (wanted_none rfl) (r_call2 Try.func23 (by kernel_rfl) rfl rfl (by simp [eval_put_ne, eval_put_eq, size_put, hts]) (by simp [eval_put_ne, eval_put_eq, size_put, hts])) (Hh1.out w0 hkw) ?_
          rintro e v1 ⟨rfl, rfl⟩
          refine ⟨_, rfl, hS0, ?_⟩
          refine tkS 3 18 (v := .bool false) hS0 rfl rfl (by kernel_rfl) (by kernel_rfl) (by kernel_rfl) (by kernel_rfl) (wanted_none rfl) (fun _ _ _ h => h) (fun U hU => r_not (b := true) (by simp [eval_put_ne, eval_put_eq, size_put, hts])) ?_
          refine tkS 4 19 (v := .bool false) hS0 rfl rfl (by kernel_rfl) (by kernel_rfl) (by kernel_rfl) (by kernel_rfl) (wanted_none rfl) (fun _ _ _ h => h) (fun U hU => r_move (by simp [eval_put_ne, eval_put_eq, size_put, hts])) ?_
          refine tkS 5 20 (v := P2) hS0 rfl rfl (by kernel_rfl) (by kernel_rfl) (by kernel_rfl) (by kernel_rfl) (wanted_some (j := 4) (d := 19) (bb := false) rfl rfl rfl (by simp [eval_put_ne, eval_put_eq, size_put, hts]) (by simp [size_put, hts])) (fun _ _ _ h => h) (fun U hU => r_move (by simp [eval_put_ne, eval_put_eq, size_put, hts, e1])) ?_
          refine tkS 6 21 (v := .int .i64 k) hS0 rfl rfl (by kernel_rfl) (by kernel_rfl) (by kernel_rfl) (by kernel_rfl) (wanted_some (j := 4) (d := 19) (bb := false) rfl rfl rfl (by simp [eval_put_ne, eval_put_eq, size_put, hts]) (by simp [size_put, hts])) (fun _ _ _ h => h) (fun U hU => r_move (by simp [eval_put_ne, eval_put_eq, size_put, hts, e6])) ?_
          refine oneCS 7 22 (by kernel_rfl) rfl rfl (wanted_some (j := 4) (d := 19) (bb := false) rfl rfl rfl (by simp [eval_put_ne, eval_put_eq, size_put, hts]) (by simp [size_put, hts])) (r_call2 Try.func23 (by kernel_rfl) rfl rfl (by simp [eval_put_ne, eval_put_eq, size_put, hts]) (by simp [eval_put_ne, eval_put_eq, size_put, hts])) (Hh2.out w0 hkw) ?_
          rintro e v1 ⟨rfl, rfl⟩
          refine ⟨_, rfl, hS0, ?_⟩
          refine tkS 8 23 (v := .bool true) hS0 rfl rfl (by kernel_rfl) (by kernel_rfl) (by kernel_rfl) (by kernel_rfl) (wanted_some (j := 4) (d := 19) (bb := false) rfl rfl rfl (by simp [eval_put_ne, eval_put_eq, size_put, hts]) (by simp [size_put, hts])) (fun _ _ _ h => h) (fun U hU => r_not (b := false) (by simp [eval_put_ne, eval_put_eq, size_put, hts])) ?_
          refine tkS 9 24 (v := .bool true) hS0 rfl rfl (by kernel_rfl) (by kernel_rfl) (by kernel_rfl) (by kernel_rfl) (wanted_none rfl) (fun _ _ _ h => h) (fun U hU => r_pickF (by simp [eval_put_ne, eval_put_eq, size_put, hts]) (by simp [eval_put_ne, eval_put_eq, size_put, hts])) ?_
          refine tkS 10 25 (v := .bool true) hS0 rfl rfl (by kernel_rfl) (by kernel_rfl) (by kernel_rfl) (by kernel_rfl) (wanted_none rfl) (fun _ _ _ h => h) (fun U hU => r_move (by simp [eval_put_ne, eval_put_eq, size_put, hts])) ?_
          refine tkNS 11 26 hS0 rfl rfl (by kernel_rfl) (by kernel_rfl) (by kernel_rfl) (by kernel_rfl) (wanted_not (j := 10) (d := 25) (bb := false) rfl rfl rfl (by simp [eval_put_ne, eval_put_eq, size_put, hts]) (by simp [size_put, hts])) (fun _ _ _ h => h) ?_
          refine tkNS 12 27 hS0 rfl rfl (by kernel_rfl) (by kernel_rfl) (by kernel_rfl) (by kernel_rfl) (wanted_not (j := 10) (d := 25) (bb := false) rfl rfl rfl (by simp [eval_put_ne, eval_put_eq, size_put, hts]) (by simp [size_put, hts])) (fun _ _ _ h => h) ?_
          refine tkNS 13 28 hS0 rfl rfl (by kernel_rfl) (by kernel_rfl) (by kernel_rfl) (by kernel_rfl) (wanted_not (j := 10) (d := 25) (bb := false) rfl rfl rfl (by simp [eval_put_ne, eval_put_eq, size_put, hts]) (by simp [size_put, hts])) (fun _ _ _ h => h) ?_
          refine tkNS 14 29 hS0 rfl rfl (by kernel_rfl) (by kernel_rfl) (by kernel_rfl) (by kernel_rfl) (wanted_not (j := 10) (d := 25) (bb := false) rfl rfl rfl (by simp [eval_put_ne, eval_put_eq, size_put, hts]) (by simp [size_put, hts])) (fun _ _ _ h => h) ?_
          refine tkNS 15 30 hS0 rfl rfl (by kernel_rfl) (by kernel_rfl) (by kernel_rfl) (by kernel_rfl) (wanted_not (j := 10) (d := 25) (bb := false) rfl rfl rfl (by simp [eval_put_ne, eval_put_eq, size_put, hts]) (by simp [size_put, hts])) (fun _ _ _ h => h) ?_
          refine tkNS 16 31 hS0 rfl rfl (by kernel_rfl) (by kernel_rfl) (by kernel_rfl) (by kernel_rfl) (wanted_not (j := 10) (d := 25) (bb := false) rfl rfl rfl (by simp [eval_put_ne, eval_put_eq, size_put, hts]) (by simp [size_put, hts])) (fun _ _ _ h => h) ?_
          refine tkNS 17 32 hS0 rfl rfl (by kernel_rfl) (by kernel_rfl) (by kernel_rfl) (by kernel_rfl) (wanted_not (j := 10) (d := 25) (bb := false) rfl rfl rfl (by simp [eval_put_ne, eval_put_eq, size_put, hts]) (by simp [size_put, hts])) (fun _ _ _ h => h) ?_
          refine tkNS 18 33 hS0 rfl rfl (by kernel_rfl) (by kernel_rfl) (by kernel_rfl) (by kernel_rfl) (wanted_not (j := 10) (d := 25) (bb := false) rfl rfl rfl (by simp [eval_put_ne, eval_put_eq, size_put, hts]) (by simp [size_put, hts])) (fun _ _ _ h => h) ?_
          refine tkNS 19 34 hS0 rfl rfl (by kernel_rfl) (by kernel_rfl) (by kernel_rfl) (by kernel_rfl) (wanted_not (j := 10) (d := 25) (bb := false) rfl rfl rfl (by simp [eval_put_ne, eval_put_eq, size_put, hts]) (by simp [size_put, hts])) (fun _ _ _ h => h) ?_
          refine tkNS 20 35 hS0 rfl rfl (by kernel_rfl) (by kernel_rfl) (by kernel_rfl) (by kernel_rfl) (wanted_not (j := 10) (d := 25) (bb := false) rfl rfl rfl (by simp [eval_put_ne, eval_put_eq, size_put, hts]) (by simp [size_put, hts])) (fun _ _ _ h => h) ?_
          refine tkNS 21 36 hS0 rfl rfl (by kernel_rfl) (by kernel_rfl) (by kernel_rfl) (by kernel_rfl) (wanted_not (j := 10) (d := 25) (bb := false) rfl rfl rfl (by simp [eval_put_ne, eval_put_eq, size_put, hts]) (by simp [size_put, hts])) (fun _ _ _ h => h) ?_
          refine tkNS 22 37 hS0 rfl rfl (by kernel_rfl) (by kernel_rfl) (by kernel_rfl) (by kernel_rfl) (wanted_not (j := 10) (d := 25) (bb := false) rfl rfl rfl (by simp [eval_put_ne, eval_put_eq, size_put, hts]) (by simp [size_put, hts])) (fun _ _ _ h => h) ?_
          refine tkNS 23 38 hS0 rfl rfl (by kernel_rfl) (by kernel_rfl) (by kernel_rfl) (by kernel_rfl) (wanted_not (j := 10) (d := 25) (bb := false) rfl rfl rfl (by simp [eval_put_ne, eval_put_eq, size_put, hts]) (by simp [size_put, hts])) (fun _ _ _ h => h) ?_
          refine tkNS 24 39 hS0 rfl rfl (by kernel_rfl) (by kernel_rfl) (by kernel_rfl) (by kernel_rfl) (wanted_not (j := 10) (d := 25) (bb := false) rfl rfl rfl (by simp [eval_put_ne, eval_put_eq, size_put, hts]) (by simp [size_put, hts])) (fun _ _ _ h => h) ?_
          refine tkNS 25 40 hS0 rfl rfl (by kernel_rfl) (by kernel_rfl) (by kernel_rfl) (by kernel_rfl) (wanted_not (j := 10) (d := 25) (bb := false) rfl rfl rfl (by simp [eval_put_ne, eval_put_eq, size_put, hts]) (by simp [size_put, hts])) (fun _ _ _ h => h) ?_
          refine tkS 26 41 (v := .bool true) hS0 rfl rfl (by kernel_rfl) (by kernel_rfl) (by kernel_rfl) (by kernel_rfl) (wanted_none rfl) (fun _ _ _ h => h) (fun U hU => r_pick (by simp [eval_put_ne, eval_put_eq, size_put, hts]) rfl) ?_
          refine doneS (by kernel_rfl) ?_
          rw [hfr.out]
          clear hfr e0 e1 e6 hts
          simp only [put_lit, put_none, List.set_cons_succ, List.set_cons_zero]
          have HKw := hide hkw
          clear hS0 hkw hheap
          go_wp2_with (with_reducible refine stop_bs1 40 ?_)
          refine hide ?_
          refine aw_push (v := .int .i64 k) (o := .slice oa (diffTo n A m B k).length oc) Try.underlying40 Hi3.out Hz3.out Hs3.out Hb3.out rfl (by decide) rfl rfl rfl rfl rfl (HG.out.kept HKw.out).1 (by have := Hlen.out; omega) ?_
          intro o' w' q1 q2 q3
          have HG' := hide (HPush.out _ _ _ HKw.out q1 q2 q3 Hun.out)
          obtain ⟨oa', oc', rfl⟩ := ownsRow_slice q1
          clear q1 q2 q3
          try simp only [put_lit, put_none, List.set_cons_succ, List.set_cons_zero]
          go_wp2
          go_roundw
          case rel => exact ⟨k + 1, by simp, by omega, HG'⟩
          case measure => simp [intOf]; omega
      · have Hun : Hid (unlikeB n A m B k = true) := hide (by simp [unlikeB, h1])
        have Hh1 := hide (fun (w' : World) (hk : Kept (fun _ => False) wr w') => Hha.out w' (HG.out.2.2.trans hk (fun _ _ h => h)) k false (by simp; omega))
        go_wp2_with fail
        refine hold_frame (p := fun fr => Code.wp Try.prog _ _ fr _) ?_
        intro fr hfr
        have e0 : fr.eval (.tmp 0) = P1 := by rw [hfr.out]; rfl
        have e1 : fr.eval (.tmp 1) = P2 := by rw [hfr.out]; rfl
        have e6 : fr.eval (.tmp 6) = .int .i64 k := by rw [hfr.out]; rfl
        have hts : fr.tmps.size = 48 := by rw [hfr.out]; rfl
        refine region_S0 99 Try.mixed ?_
        intro w0 hkw hheap
        have hS0 : Kept (fun _ => False) w0 w0 := Kept.refl (fun _ => False) w0
        refine ⟨Kept (fun _ => False) w0, ?_⟩
        refine tkS 0 15 (v := P1) hS0 rfl rfl (by kernel_rfl) (by kernel_rfl) (by kernel_rfl) (by kernel_rfl) (wanted_none rfl) (fun _ _ _ h => h) (fun U hU => r_move (by simp [eval_put_ne, eval_put_eq, size_put, hts, e0])) ?_
        refine tkS 1 16 (v := .int .i64 k) hS0 rfl rfl (by kernel_rfl) (by kernel_rfl) (by kernel_rfl) (by kernel_rfl) (wanted_none rfl) (fun _ _ _ h => h) (fun U hU => r_move (by simp [eval_put_ne, eval_put_eq, size_put, hts, e6])) ?_
        refine oneCS 2 17 (by kernel_rfl) rfl rfl (wanted_none rfl) (r_call2 Try.func23 (by kernel_rfl) rfl rfl (by simp [eval_put_ne, eval_put_eq, size_put, hts]) (by simp [eval_put_ne, eval_put_eq, size_put, hts])) (Hh1.out w0 hkw) ?_
        rintro e v1 ⟨rfl, rfl⟩
        refine ⟨_, rfl, hS0, ?_⟩
        refine tkS 3 18 (v := .bool true) hS0 rfl rfl (by kernel_rfl) (by kernel_rfl) (by kernel_rfl) (by kernel_rfl) (wanted_none rfl) (fun _ _ _ h => h) (fun U hU => r_not (b := false) (by simp [eval_put_ne, eval_put_eq, size_put, hts])) ?_
        refine tkS 4 19 (v := .bool true) hS0 rfl rfl (by kernel_rfl) (by kernel_rfl) (by kernel_rfl) (by kernel_rfl) (wanted_none rfl) (fun _ _ _ h => h) (fun U hU => r_move (by simp [eval_put_ne, eval_put_eq, size_put, hts])) ?_
        refine tkNS 5 20 hS0 rfl rfl (by kernel_rfl) (by kernel_rfl) (by kernel_rfl) (by kernel_rfl) (wanted_not (j := 4) (d := 19) (bb := false) rfl rfl rfl (by simp [eval_put_ne, eval_put_eq, size_put, hts]) (by simp [size_put, hts])) (fun _ _ _ h => h) ?_
        refine tkNS 6 21 hS0 rfl rfl (by kernel_rfl) (by kernel_rfl) (by kernel_rfl) (by kernel_rfl) (wanted_not (j := 4) (d := 19) (bb := false) rfl rfl rfl (by simp [eval_put_ne, eval_put_eq, size_put, hts]) (by simp [size_put, hts])) (fun _ _ _ h => h) ?_
        refine tkNS 7 22 hS0 rfl rfl (by kernel_rfl) (by kernel_rfl) (by kernel_rfl) (by kernel_rfl) (wanted_not (j := 4) (d := 19) (bb := false) rfl rfl rfl (by simp [eval_put_ne, eval_put_eq, size_put, hts]) (by simp [size_put, hts])) (fun _ _ _ h => h) ?_
        refine tkNS 8 23 hS0 rfl rfl (by kernel_rfl) (by kernel_rfl) (by kernel_rfl) (by kernel_rfl) (wanted_not (j := 4) (d := 19) (bb := false) rfl rfl rfl (by simp [eval_put_ne, eval_put_eq, size_put, hts]) (by simp [size_put, hts])) (fun _ _ _ h => h) ?_
        refine tkS 9 24 (v := .bool true) hS0 rfl rfl (by kernel_rfl) (by kernel_rfl) (by kernel_rfl) (by kernel_rfl) (wanted_none rfl) (fun _ _ _ h => h) (fun U hU => r_pick (by simp [eval_put_ne, eval_put_eq, size_put, hts]) rfl) ?_
        refine tkS 10 25 (v := .bool true) hS0 rfl rfl (by kernel_rfl) (by kernel_rfl) (by kernel_rfl) (by kernel_rfl) (wanted_none rfl) (fun _ _ _ h => h) (fun U hU => r_move (by simp [eval_put_ne, eval_put_eq, size_put, hts])) ?_
        refine tkNS 11 26 hS0 rfl rfl (by kernel_rfl) (by kernel_rfl) (by kernel_rfl) (by kernel_rfl) (wanted_not (j := 10) (d := 25) (bb := false) rfl rfl rfl (by simp [eval_put_ne, eval_put_eq, size_put, hts]) (by simp [size_put, hts])) (fun _ _ _ h => h) ?_
        refine tkNS 12 27 hS0 rfl rfl (by kernel_rfl) (by kernel_rfl) (by kernel_rfl) (by kernel_rfl) (wanted_not (j := 10) (d := 25) (bb := false) rfl rfl rfl (by simp [eval_put_ne, eval_put_eq, size_put, hts]) (by simp [size_put, hts])) (fun _ _ _ h => h) ?_
        refine tkNS 13 28 hS0 rfl rfl (by kernel_rfl) (by kernel_rfl) (by kernel_rfl) (by kernel_rfl) (wanted_not (j := 10) (d := 25) (bb := false) rfl rfl rfl (by simp [eval_put_ne, eval_put_eq, size_put, hts]) (by simp [size_put, hts])) (fun _ _ _ h => h) ?_
        refine tkNS 14 29 hS0 rfl rfl (by kernel_rfl) (by kernel_rfl) (by kernel_rfl) (by kernel_rfl) (wanted_not (j := 10) (d := 25) (bb := false) rfl rfl rfl (by simp [eval_put_ne, eval_put_eq, size_put, hts]) (by simp [size_put, hts])) (fun _ _ _ h => h) ?_
        refine tkNS 15 30 hS0 rfl rfl (by kernel_rfl) (by kernel_rfl) (by kernel_rfl) (by kernel_rfl) (wanted_not (j := 10) (d := 25) (bb := false) rfl rfl rfl (by simp [eval_put_ne, eval_put_eq, size_put, hts]) (by simp [size_put, hts])) (fun _ _ _ h => h) ?_
        refine tkNS 16 31 hS0 rfl rfl (by kernel_rfl) (by kernel_rfl) (by kernel_rfl) (by kernel_rfl) (wanted_not (j := 10) (d := 25) (bb := false) rfl rfl rfl (by simp [eval_put_ne, eval_put_eq, size_put, hts]) (by simp [size_put, hts])) (fun _ _ _ h => h) ?_
        refine tkNS 17 32 hS0 rfl rfl (by kernel_rfl) (by kernel_rfl) (by kernel_rfl) (by kernel_rfl) (wanted_not (j := 10) (d := 25) (bb := false) rfl rfl rfl (by simp [eval_put_ne, eval_put_eq, size_put, hts]) (by simp [size_put, hts])) (fun _ _ _ h => h) ?_
        refine tkNS 18 33 hS0 rfl rfl (by kernel_rfl) (by kernel_rfl) (by kernel_rfl) (by kernel_rfl) (wanted_not (j := 10) (d := 25) (bb := false) rfl rfl rfl (by simp [eval_put_ne, eval_put_eq, size_put, hts]) (by simp [size_put, hts])) (fun _ _ _ h => h) ?_
        refine tkNS 19 34 hS0 rfl rfl (by kernel_rfl) (by kernel_rfl) (by kernel_rfl) (by kernel_rfl) (wanted_not (j := 10) (d := 25) (bb := false) rfl rfl rfl (by simp [eval_put_ne, eval_put_eq, size_put, hts]) (by simp [size_put, hts])) (fun _ _ _ h => h) ?_
        refine tkNS 20 35 hS0 rfl rfl (by kernel_rfl) (by kernel_rfl) (by kernel_rfl) (by kernel_rfl) (wanted_not (j := 10) (d := 25) (bb := false) rfl rfl rfl (by simp [eval_put_ne, eval_put_eq, size_put, hts]) (by simp [size_put, hts])) (fun _ _ _ h => h) ?_
        refine tkNS 21 36 hS0 rfl rfl (by kernel_rfl) (by kernel_rfl) (by kernel_rfl) (by kernel_rfl) (wanted_not (j := 10) (d := 25) (bb := false) rfl rfl rfl (by simp [eval_put_ne, eval_put_eq, size_put, hts]) (by simp [size_put, hts])) (fun _ _ _ h => h) ?_
        refine tkNS 22 37 hS0 rfl rfl (by kernel_rfl) (by kernel_rfl) (by kernel_rfl) (by kernel_rfl) (wanted_not (j := 10) (d := 25) (bb := false) rfl rfl rfl (by simp [eval_put_ne, eval_put_eq, size_put, hts]) (by simp [size_put, hts])) (fun _ _ _ h => h) ?_
        refine tkNS 23 38 hS0 rfl rfl (by kernel_rfl) (by kernel_rfl) (by kernel_rfl) (by kernel_rfl) (wanted_not (j := 10) (d := 25) (bb := false) rfl rfl rfl (by simp [eval_put_ne, eval_put_eq, size_put, hts]) (by simp [size_put, hts])) (fun _ _ _ h => h) ?_
        refine tkNS 24 39 hS0 rfl rfl (by kernel_rfl) (by kernel_rfl) (by kernel_rfl) (by kernel_rfl) (wanted_not (j := 10) (d := 25) (bb := false) rfl rfl rfl (by simp [eval_put_ne, eval_put_eq, size_put, hts]) (by simp [size_put, hts])) (fun _ _ _ h => h) ?_
        refine tkNS 25 40 hS0 rfl rfl (by kernel_rfl) (by kernel_rfl) (by kernel_rfl) (by kernel_rfl) (wanted_not (j := 10) (d := 25) (bb := false) rfl rfl rfl (by simp [eval_put_ne, eval_put_eq, size_put, hts]) (by simp [size_put, hts])) (fun _ _ _ h => h) ?_
        refine tkS 26 41 (v := .bool true) hS0 rfl rfl (by kernel_rfl) (by kernel_rfl) (by kernel_rfl) (by kernel_rfl) (wanted_none rfl) (fun _ _ _ h => h) (fun U hU => r_pick (by simp [eval_put_ne, eval_put_eq, size_put, hts]) rfl) ?_
        refine doneS (by kernel_rfl) ?_
        rw [hfr.out]
        clear hfr e0 e1 e6 hts
        simp only [put_lit, put_none, List.set_cons_succ, List.set_cons_zero]
        have HKw := hide hkw
        clear hS0 hkw hheap
        go_wp2_with (with_reducible refine stop_bs1 40 ?_)
        refine hide ?_
        refine aw_push (v := .int .i64 k) (o := .slice oa (diffTo n A m B k).length oc) Try.underlying40 Hi3.out Hz3.out Hs3.out Hb3.out rfl (by decide) rfl rfl rfl rfl rfl (HG.out.kept HKw.out).1 (by have := Hlen.out; omega) ?_
        intro o' w' q1 q2 q3
        have HG' := hide (HPush.out _ _ _ HKw.out q1 q2 q3 Hun.out)
        obtain ⟨oa', oc', rfl⟩ := ownsRow_slice q1
        clear q1 q2 q3
        try simp only [put_lit, put_none, List.set_cons_succ, List.set_cons_zero]
        go_wp2
        go_roundw
        case rel => exact ⟨k + 1, by simp, by omega, HG'⟩
        case measure => simp [intOf]; omega
    · obtain rfl : k = mx := by omega
      go_wp2
      go_ret
      exact ⟨_, rfl, by rw [← Hres.out]; exact HG.out⟩
theorem same_at (w : World) (P1 P2 : Value) (n m : Nat) (A B : List Nat) (hA : DkAt w P1 n A) (hB : DkAt w P2 m B) (r : Bool) (hr : decide (n = m ∧ A = B) = r) :
    Calls Try.prog 13 #[P1, P2] w fun e w' => e = .returned (.bool r) ∧ Kept (fun _ => False) w w' := by
  have HD := hide (diff_at w P1 P2 n m A B hA hB)
  have hiff : decide (((diffB n A m B).length : Int) = 0) = r := by
    rw [← hr]
    apply decide_eq_decide.2
    have hl1 := hA.len
    have hl2 := hB.len
    by_cases h : n = m
    · subst h
      rw [show (((diffB n A n B).length : Int) = 0) ↔ diffB n A n B = [] by rw [← List.length_eq_zero_iff]; omega, diff_nil hl1 hl2]
      simp
    · have := diff_of_ne A B h
      rw [show (((diffB n A m B).length : Int) = 0) ↔ diffB n A m B = [] by rw [← List.length_eq_zero_iff]; omega]
      simp [this, h]
  have HI := hide hiff
  clear hA hB hr hiff
  go_enter Try.func13, Try.ntmps13
  go_wp2_with (go_at_call 17; refine HD.out.mono ?_; rintro e w1 ⟨v, rfl, hg⟩; obtain ⟨oa, oc, rfl⟩ := ownsRow_slice hg.1; have HG := hide hg; clear hg)
  go_ret
  refine ⟨?_, HG.out.2.2⟩
  rw [← HI.out]
  rfl
end Go.Proofs.Ytlpjhgcafkdhdaa
