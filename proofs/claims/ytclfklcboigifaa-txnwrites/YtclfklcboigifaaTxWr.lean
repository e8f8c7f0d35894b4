/-
  TxnWrites, walked.
-/
import Derived.Test.YtclfklcboigifaaTxWrM
import Derived.Test.YtclfklcboigifaaRRefMergeW
namespace Go.Proofs.Ytclfklcboigifaa
open Go.RowKit Go.Shelf
set_option linter.unusedSimpArgs false
set_option linter.unusedVariables false
set_option maxRecDepth 100000

section
variable {ρ : Operand → Value} {w : World} {dst : Option Tmp} {ty : TypeId} {pos : String} {aft : Array Edge} {gd : Option (Nat × Bool)} {x y z : Operand}
theorem r_fW0 {b : Nat} (hx : ρ x = .pointer (some ⟨b, 0, none⟩)) : (execOp ρ ⟨dst, .fieldAddr 63 x 0, ty, pos, aft, gd⟩).run Try.prog w = .ok (.value (.pointer (some ⟨b, 0, none⟩))) w := by
  go_simp
theorem r_fW1 {b : Nat} (hx : ρ x = .pointer (some ⟨b, 0, none⟩)) : (execOp ρ ⟨dst, .fieldAddr 63 x 1, ty, pos, aft, gd⟩).run Try.prog w = .ok (.value (.pointer (some ⟨b, 1, none⟩))) w := by
  go_simp
theorem r_fWo {b o : Nat} (hx : ρ x = .pointer (some ⟨b, o, none⟩)) : (execOp ρ ⟨dst, .fieldAddr 63 x 0, ty, pos, aft, gd⟩).run Try.prog w = .ok (.value (.pointer (some ⟨b, o, none⟩))) w := by
  go_simp
theorem r_geq3 {p q : Int} (hx : ρ x = .int .i64 p) (hy : ρ y = .int .i64 q) : (execOp ρ ⟨dst, .binOp .geq 3 x y 3, ty, pos, aft, gd⟩).run Try.prog w = .ok (.value (.bool (decide (p ≥ q)))) w := by
  go_simp
end
theorem Kept.cell_of {w w' : World} {b o : Nat} {v : Value} (hk : Kept (fun _ => False) w w') (h : w.cell? ⟨b, o, none⟩ = some v) : w'.cell? ⟨b, o, none⟩ = some v := by
  have := hk.cells (cell_one h) (fun h => h) 0 v rfl
  simpa using this
set_option maxHeartbeats 8000000 in
theorem txwrites_at (W : World) (v : Value) (m : Nat) (hl : OpsT W v m) : Calls Try.prog 5 #[v] W fun e w' => e = .returned (.bool true) ∧ Kept (fun _ => False) W w' := by
  obtain ⟨ao, cap, rfl, hm⟩ := hl.slice
  have HOps := hide hl
  obtain ⟨i5, hi5, hz5, hs5, hb5⟩ := info_parts Try.info42
  have Hi5 := hide hi5
  have Hz5 := hide hz5
  obtain ⟨i2, hi2, hz2, hs2, hb2⟩ := info_parts Try.info63
  have Hi2 := hide hi2
  have Hz2 := hide hz2
  clear hl hi5 hz5 hs5 hb5 hi2 hz2 hs2 hb2
  go_enter Try.func5, Try.ntmps5
  go_wp2_with fail
  refine (first_at W).mono ?_
  rintro e w1 ⟨rfl, hk1⟩
  have HK1 := hide hk1
  clear hk1
  go_wp2_with fail
  refine (txnew_ok w1 8 (by decide) (by decide)).mono ?_
  rintro e w2 ⟨b, X2, rfl, hb2, hk2, hn2⟩
  have T2 : Hid (Tw W w2 b 8 0 [] X2) := hide ⟨hb2, HK1.out.trans hk2 (fun _ _ h => h), fun k hk => Nat.le_trans HK1.out.size (hn2 k hk)⟩
  clear hb2 hk2 hn2 HK1
  go_wp2_with fail
  refine (begin_ok w2 b 8 0 [] X2 T2.out.at_ (by decide) (by decide)).mono ?_
  rintro e w3 ⟨rfl, hs3⟩
  obtain ⟨X3, ht3, _, _⟩ := T2.out.step hs3
  have T3 : Hid (Tw W w3 b 8 1 (txF false []) X3) := hide ht3
  clear hs3 ht3 T2
  simp only [Int.zero_add]
  go_wp2_with (first
    | (with_reducible refine aw_makeMap (t := 59) ?_)
    | fail)
  intro w4 hw4
  obtain ⟨bl, hbl⟩ : ∃ bl, w3.heap.size = bl := ⟨_, rfl⟩
  have HS0 : Hid (WSt false W w4 b bl 0 [] X3) := hide
    { tw := T3.out.same (by rw [hw4]; exact Kept.alloc _ _ _), mp := by rw [hw4, ← hbl]; exact MapS.made w3, ri := trivial, ok := by intro x hx; simp [txF] at hx; subst hx; exact ⟨Nat.le_refl _, by simp, trivial⟩,
      inn := by simp, nx := fun h => by have := T3.out.lt bl h; omega, ge := by rw [← hbl]; exact T3.out.kept.size }
  rw [hbl]
  clear T3 hw4 hbl
  go_wp2
  go_loopw [31] (fun i wr => ∃ (k : Nat) (M : List Wr) (X : NSet), i = .int .i64 k ∧ k ≤ m ∧ k ≤ 40 ∧ Hid (WSt false W wr b bl k M X)) (fun i _ => m - (intOf i).toNat)
  case atStart => exact ⟨0, [], X3, rfl, Nat.zero_le _, by omega, HS0⟩
  case round =>
    clear HS0
    obtain ⟨k, M, X, rfl, hk, hk40, HS⟩ := hrel
    by_cases hlt : k < m
    · obtain ⟨g, off, ⟨kd, hh, kk, ⟨sa, sn, sc⟩, B⟩, rfl, hcr, hop, hop0⟩ := HOps.out.get HS.out.tw.kept hlt
      have hsn := hop.len
      simp only at hsn
      subst hsn
      have Hcr : Hid (Cells wr g (off + k * 4) [Value.int .i64 kd, .int .i64 hh, .int .i64 kk, .slice sa B.length sc]) := hide hcr
      have HO := hide hop0
      clear hcr hop hop0
      by_cases h40 : 40 ≤ k
      · have h40I : (40 : Int) ≤ (k : Int) := by omega
        go_wp2_with (first
          | (with_reducible refine aw_loadC Try.agg42 rfl Hcr.out rfl ?_)
          | ((with_reducible refine aw_alloc (t := 42) Hi5.out Hz5.out ?_); intro w3 hw3 hk3 hz3; have Hz3 := hide hz3; clear hz3)
          | ((with_reducible refine aw_store (M := [Value.int .i64 kd, .int .i64 hh, .int .i64 kk, .slice sa B.length sc]) Try.agg42 rfl rfl rfl (by simp [Value.oneCell']) hw3 (by simp [Value.cells]) ?_); intro w4 hw4 hk4 hz4; rw [put_whole _ _ (by simp [Value.cells])] at hw4; have HK34 := hide (hk3.trans hk4 (S := fun _ => False) (fun i hi h => by omega)); have f2 : w4.cell? ⟨wr.heap.size, 2, none⟩ = some (.int .i64 kk) := hw4.cell 2; have f3 : w4.cell? ⟨wr.heap.size, 3, none⟩ = some (.slice sa B.length sc) := hw4.cell 3; have HW4 := hide hw4; clear hz4 hw3 hk3 hk4 hw4)
          | fail)
        go_ret
        exact ⟨rfl, HS.out.tw.kept.trans HK34.out (fun _ _ h => h)⟩
      · have h40I : ¬ (40 : Int) ≤ (k : Int) := by omega
        by_cases h200 : 200 < B.length
        · have h200I : (200 : Int) < (B.length : Int) := by omega
          go_wp2_with (first
            | (with_reducible refine aw_loadC Try.agg42 rfl Hcr.out rfl ?_)
            | ((with_reducible refine aw_alloc (t := 42) Hi5.out Hz5.out ?_); intro w3 hw3 hk3 hz3; have Hz3 := hide hz3; clear hz3)
            | ((with_reducible refine aw_store (M := [Value.int .i64 kd, .int .i64 hh, .int .i64 kk, .slice sa B.length sc]) Try.agg42 rfl rfl rfl (by simp [Value.oneCell']) hw3 (by simp [Value.cells]) ?_); intro w4 hw4 hk4 hz4; rw [put_whole _ _ (by simp [Value.cells])] at hw4; have HK34 := hide (hk3.trans hk4 (S := fun _ => False) (fun i hi h => by omega)); have f2 : w4.cell? ⟨wr.heap.size, 2, none⟩ = some (.int .i64 kk) := hw4.cell 2; have f3 : w4.cell? ⟨wr.heap.size, 3, none⟩ = some (.slice sa B.length sc) := hw4.cell 3; have HW4 := hide hw4; clear hz4 hw3 hk3 hk4 hw4)
            | fail)
          go_ret
          exact ⟨rfl, HS.out.tw.kept.trans HK34.out (fun _ _ h => h)⟩
        · have h200I : ¬ (200 : Int) < (B.length : Int) := by omega
          go_wp2_with (first
            | (with_reducible refine aw_loadC Try.agg42 rfl Hcr.out rfl ?_)
            | ((with_reducible refine aw_alloc (t := 42) Hi5.out Hz5.out ?_); intro w3 hw3 hk3 hz3; have Hz3 := hide hz3; clear hz3)
            | ((with_reducible refine aw_store (M := [Value.int .i64 kd, .int .i64 hh, .int .i64 kk, .slice sa B.length sc]) Try.agg42 rfl rfl rfl (by simp [Value.oneCell']) hw3 (by simp [Value.cells]) ?_); intro w4 hw4 hk4 hz4; rw [put_whole _ _ (by simp [Value.cells])] at hw4; have HK34 := hide (hk3.trans hk4 (S := fun _ => False) (fun i hi h => by omega)); have f2 : w4.cell? ⟨wr.heap.size, 2, none⟩ = some (.int .i64 kk) := hw4.cell 2; have f3 : w4.cell? ⟨wr.heap.size, 3, none⟩ = some (.slice sa B.length sc) := hw4.cell 3; have HW4 := hide hw4; clear hz4 hw3 hk3 hk4 hw4)
            | fail)
          have HS4 := hide (HS.out.same HK34.out)
          have HnX : Hid (¬ X wr.heap.size) := hide (fun h => by have := HS.out.tw.lt _ h; omega)
          have hsrc : Src w4 (Sl.v ⟨sa, B.length, sc⟩) B := (HO.out.kept HS4.out.tw.kept).src
          refine (write_at w4 b 8 (laF false) (txF false M) X HS4.out.tw.at_ (txF_len _ _) k (by omega) HS4.out.ok 1 kk ⟨sa, B.length, sc⟩ B hsrc).mono ?_
          rintro e w5 ⟨rfl, hs5⟩
          by_cases he : txWE 8 (txF false M) 1 kk B.length = 0
          · obtain ⟨X5, hx5, hk5, hn5⟩ := HS4.out.yes he hs5
            have hw5 := hk5.blk HW4.out HnX.out
            have f2' : w5.cell? ⟨wr.heap.size, 2, none⟩ = some (.int .i64 kk) := hw5.cell 2
            have f3' : w5.cell? ⟨wr.heap.size, 3, none⟩ = some (.slice sa B.length sc) := hw5.cell 3
            have HX5 := hide hx5
            have HSrc := hide ((HO.out.kept hx5.tw.kept).src)
            have Hkk := hide HO.out.kk
            rw [he]
            clear f2 f3 hs5 hx5 hk5 hn5 hw5 hsrc he HS4 HnX
            go_wp2_with (first
              | (with_reducible refine stop_convert 40 9 ?_)
              | fail)
            refine hide ?_
            refine wpList_run rfl (r_strS rfl HSrc.out) ?_
            try simp only [put_lit, put_none, List.set_cons_succ, List.set_cons_zero]
            go_wp2_with (first
              | (with_reducible refine stop_mu 59 ?_)
              | fail)
            refine hide ?_
            obtain ⟨w6, hrun, hm6, hk6⟩ := HX5.out.mp.update HX5.out.ri Try.underlying59 (by unfold maxLen; omega) Hkk.out (B := B) (by omega)
            refine aw_mu rfl rfl rfl hrun ?_
            have HS6 := hide (HX5.out.done hm6 hk6)
            clear hrun hm6 hk6 HX5 f2' f3' HSrc Hkk
            try simp only [put_lit, put_none, List.set_cons_succ, List.set_cons_zero]
            go_wp2
            go_roundw
            case rel => exact ⟨k + 1, _, X5, by simp, by omega, by omega, HS6⟩
            case measure => simp [intOf]; omega
          · obtain ⟨X5, hx5, hk5, hn5⟩ := HS4.out.no he hs5
            have HX5 := hide hx5.next
            obtain ⟨er, her⟩ : ∃ er, txWE 8 (txF false M) 1 kk B.length = er := ⟨_, rfl⟩
            rw [her] at he ⊢
            clear f2 f3 hs5 hx5 hk5 hn5 hsrc HS4 HnX her
            go_wp2
            go_roundw
            case rel => exact ⟨k + 1, M, X5, by simp, by omega, by omega, HX5⟩
            case measure => simp [intOf]; omega
    · obtain rfl : m = k := by omega
      clear hlt hk
      go_wp2_with fail
      refine (writes_ok wr b 8 (laF false) (txF false M) X HS.out.tw.at_ (txF_len _ _) m (by omega) HS.out.ok 1 (txF_has _ _)).mono ?_
      rintro e w5 ⟨⟨la, ln, lc⟩, ws, rfl, hws, hwr, hk5⟩
      rw [txF_val] at hwr
      obtain rfl : ln = ws.length := WsAt.len hws
      have hwl : ws.length = M.length := by rw [← hwr, List.length_map]
      have HS5 := hide (HS.out.same hk5)
      have HWs := hide hws
      have HWr := hide hwr
      have hlm := hws.2.2
      have HWl := hide hwl
      clear hws hwr hk5 hwl HS
      obtain ⟨N, hN⟩ : ∃ N, N = ws.length := ⟨_, rfl⟩
      have hlenM : (Builtin.len_ #[59] 3 #[.map (some bl)]).run Try.prog w5 = .ok (.int .i64 (N : Nat)) w5 := by rw [hN, HWl.out]; exact HS5.out.mp.len Try.underlying59 _
      rw [← hN] at hlm HWs ⊢
      have HN := hide hN
      clear hN
      have hNN : ((N : Int) != (N : Int)) = false := by simp
      go_wp2
      go_loopw [76] (fun i wq => ∃ j : Nat, i = .int .i64 j ∧ j ≤ N ∧ Hid (Kept (fun _ => False) w5 wq)) (fun i _ => N - (intOf i).toNat)
      case atStart => exact ⟨0, rfl, Nat.zero_le _, hide (Kept.refl _ _)⟩
      case round =>
        obtain ⟨j, rfl, hj, HKj⟩ := hrel
        by_cases hjt : j < N
        · have hjl : j < ws.length := by rw [← HN.out]; exact hjt
          have hjM : j < M.length := by rw [← HWr.out, List.length_map]; exact hjl
          obtain ⟨lg, lo, rfl, c0, c1, hsrc, hnn⟩ := (HWs.out.kept HKj.out).get hjl
          have hMj : M[j] = ws[j].wr := by
            have : (ws.map Wv.wr)[j]? = M[j]? := by rw [HWr.out]
            rw [List.getElem?_map, List.getElem?_eq_getElem hjl, List.getElem?_eq_getElem hjM] at this
            simpa using this.symm
          have hfd := findW_self HS5.out.ri M[j] (List.getElem_mem hjM)
          have hin := HS5.out.inn M[j] (List.getElem_mem hjM)
          have HCl0 : Hid (∀ i, j = i + 1 → ∃ pb, wr.cell? ⟨lg, lo + i * 2, none⟩ = some (.int .i64 pb) ∧ pb < M[j].blk) := hide (by
            intro i e
            subst e
            obtain ⟨lg', lo', e', d0, _⟩ := (HWs.out.kept HKj.out).get (k := i) (by omega)
            cases e'
            refine ⟨_, d0, ?_⟩
            have h2 := rising_get HS5.out.ri (i := i) hjM
            have h3 : M[i] = ws[i].wr := by
              have : (ws.map Wv.wr)[i]? = M[i]? := by rw [HWr.out]
              rw [List.getElem?_map, List.getElem?_eq_getElem (by omega), List.getElem?_eq_getElem (by omega)] at this
              simpa using this.symm
            rw [h3] at h2
            exact h2)
          rw [hMj] at hfd hin HCl0
          obtain ⟨x, hx⟩ : ∃ x, x = ws[j] := ⟨_, rfl⟩
          rw [← hx] at c0 c1 hfd hin HCl0 hsrc
          obtain ⟨xb, ⟨xa, xn, xc⟩, xB⟩ := x
          simp only at c0 c1
          have HFd : Hid (findW M xb = some ⟨xb, xB⟩) := hide hfd
          have HXb : Hid (-9223372036854775808 ≤ xb ∧ xb ≤ 9223372036854775807) := hide (by have : 0 ≤ xb ∧ xb < 8 := hin.1; omega)
          have HSr0 := hide hsrc
          have HMp0 := hide (HS5.out.mp.kept HKj.out (fun h => h))
          clear hx hMj hfd hin hsrc hnn
          go_wp2_with (first
            | ((with_reducible refine aw_alloc (t := 63) Hi2.out Hz2.out ?_); intro w6 hw6 hk6 hz6; have Hz6 := hide hz6; clear hz6)
            | ((with_reducible refine aw_store (M := [.int .i64 xb, .slice xa xn xc]) Try.agg63 rfl rfl rfl (by simp [Value.oneCell']) hw6 (by simp [Value.cells]) ?_); intro w7 hw7 hk7 hz7; rw [put_whole _ _ (by simp [Value.cells])] at hw7; have HKw : Hid (Kept (fun _ => False) wr w7) := hide (hk6.trans hk7 (S := fun _ => False) (fun i hi h => by omega)); have HCB := hide hw7; clear hz7 hw6 hk6 hk7 hw7)
            | fail)
          obtain ⟨cB, hcB⟩ : ∃ cB, wr.heap.size = cB := ⟨_, rfl⟩
          rw [hcB] at HCB ⊢
          clear hcB
          have HKj7 := hide (HKj.out.trans HKw.out (fun _ _ h => h))
          have HMp := HMp0
          have HSr : Hid (Src wr (.slice xa xn xc) xB) := hide HSr0.out
          by_cases hj0 : j = 0
          · subst hj0
            clear c0 c1 HCl0
            simp only [Int.natCast_zero]
            refine hold_frame (p := fun fr => Code.wp Try.prog _ _ fr _) ?_
            intro fr hfr
            have e7 : fr.eval (.tmp 7) = .map (some bl) := by rw [hfr.out]; rfl
            have e10 : fr.eval (.tmp 10) = .slice (some ⟨lg, lo, none⟩) N lc := by rw [hfr.out]; rfl
            have e12 : fr.eval (.tmp 12) = .int .i64 0 := by rw [hfr.out]; rfl
            have e13 : fr.eval (.tmp 13) = .pointer (some ⟨cB, 0, none⟩) := by rw [hfr.out]; rfl
            have hts : fr.tmps.size = 120 := by rw [hfr.out]; rfl
            refine region_S0 99 Try.mixed ?_
            intro w0 hkw hheap
            have cBw := hkw.blk HCB.out (fun h => h)
            have msw := HMp.out.kept (HKw.out.trans hkw (fun _ _ h => h)) (fun h => h)
            have srw := HSr.out.kept (HKw.out.trans hkw (fun _ _ h => h))
            have hS0 : Kept (fun _ => False) w0 w0 := Kept.refl (fun _ => False) w0
            refine ⟨Kept (fun _ => False) w0, ?_⟩
            refine tkS 0 81 (v := .map (some bl)) hS0 rfl rfl (by kernel_rfl) (by kernel_rfl) (by kernel_rfl) (by kernel_rfl) (wanted_none rfl) (fun _ _ _ h => h) (fun U hU => r_move (by simp [eval_put_ne, eval_put_eq, size_put, hts, e7])) ?_
            refine tkS 1 82 (v := .pointer (some ⟨cB, 0, none⟩)) hS0 rfl rfl (by kernel_rfl) (by kernel_rfl) (by kernel_rfl) (by kernel_rfl) (wanted_none rfl) (fun _ _ _ h => h) (fun U hU => r_fW0 (by simp [eval_put_ne, eval_put_eq, size_put, hts, e13])) ?_
            refine tkS 2 83 (v := .int .i64 xb) hS0 rfl rfl (by kernel_rfl) (by kernel_rfl) (by kernel_rfl) (by kernel_rfl) (wanted_none rfl) (fun _ _ _ h => h) (fun U hU => r_ldI (by simp [eval_put_ne, eval_put_eq, size_put, hts]) ((hU.blk cBw (fun h => h)).cell 0)) ?_
            refine tkS 3 84 (v := .string (strN xB)) hS0 rfl rfl (by kernel_rfl) (by kernel_rfl) (by kernel_rfl) (by kernel_rfl) (wanted_none rfl) (fun _ _ _ h => h) (fun U hU => r_look (by simp [eval_put_ne, eval_put_eq, size_put, hts]) (by simp [eval_put_ne, eval_put_eq, size_put, hts]) ((msw.kept hU (fun h => h)).look Try.underlying59 HXb.out |>.trans (by rw [HFd.out]; rfl))) ?_
            refine tkS 4 85 (v := .pointer (some ⟨cB, 1, none⟩)) hS0 rfl rfl (by kernel_rfl) (by kernel_rfl) (by kernel_rfl) (by kernel_rfl) (wanted_none rfl) (fun _ _ _ h => h) (fun U hU => r_fW1 (by simp [eval_put_ne, eval_put_eq, size_put, hts, e13])) ?_
            refine tkS 5 86 (v := .slice xa xn xc) hS0 rfl rfl (by kernel_rfl) (by kernel_rfl) (by kernel_rfl) (by kernel_rfl) (wanted_none rfl) (fun _ _ _ h => h) (fun U hU => r_ld25 (by simp [eval_put_ne, eval_put_eq, size_put, hts]) ((hU.blk cBw (fun h => h)).cell 1)) ?_
            refine tkS 6 87 (v := .string (strN xB)) hS0 rfl rfl (by kernel_rfl) (by kernel_rfl) (by kernel_rfl) (by kernel_rfl) (wanted_none rfl) (fun _ _ _ h => h) (fun U hU => r_strS (by simp [eval_put_ne, eval_put_eq, size_put, hts]) (srw.kept hU)) ?_
            refine tkS 7 88 (v := .bool false) hS0 rfl rfl (by kernel_rfl) (by kernel_rfl) (by kernel_rfl) (by kernel_rfl) (wanted_none rfl) (fun _ _ _ h => h) (fun U hU => (r_neq9 (p := strN xB) (q := strN xB) (by simp [eval_put_ne, eval_put_eq, size_put, hts]) (by simp [eval_put_ne, eval_put_eq, size_put, hts])).trans (by simp)) ?_
            refine tkS 8 89 (v := .bool false) hS0 rfl rfl (by kernel_rfl) (by kernel_rfl) (by kernel_rfl) (by kernel_rfl) (wanted_none rfl) (fun _ _ _ h => h) (fun U hU => r_move (by simp [eval_put_ne, eval_put_eq, size_put, hts])) ?_
            refine tkS 9 90 (v := .int .i64 0) hS0 rfl rfl (by kernel_rfl) (by kernel_rfl) (by kernel_rfl) (by kernel_rfl) (wanted_some (j := 8) (d := 89) (bb := false) rfl rfl rfl (by simp [eval_put_ne, eval_put_eq, size_put, hts]) (by simp [size_put, hts])) (fun _ _ _ h => h) (fun U hU => r_move (by simp [eval_put_ne, eval_put_eq, size_put, hts, e12])) ?_
            refine tkS 10 91 (v := .bool false) hS0 rfl rfl (by kernel_rfl) (by kernel_rfl) (by kernel_rfl) (by kernel_rfl) (wanted_some (j := 8) (d := 89) (bb := false) rfl rfl rfl (by simp [eval_put_ne, eval_put_eq, size_put, hts]) (by simp [size_put, hts])) (fun _ _ _ h => h) (fun U hU => (r_gtr3 (p := 0) (q := 0) (by simp [eval_put_ne, eval_put_eq, size_put, hts]) rfl).trans (by simp)) ?_
            refine tkS 11 92 (v := .bool false) hS0 rfl rfl (by kernel_rfl) (by kernel_rfl) (by kernel_rfl) (by kernel_rfl) (wanted_some (j := 8) (d := 89) (bb := false) rfl rfl rfl (by simp [eval_put_ne, eval_put_eq, size_put, hts]) (by simp [size_put, hts])) (fun _ _ _ h => h) (fun U hU => r_move (by simp [eval_put_ne, eval_put_eq, size_put, hts])) ?_
            refine tkNS 12 93 hS0 rfl rfl (by kernel_rfl) (by kernel_rfl) (by kernel_rfl) (by kernel_rfl) (wanted_not (j := 11) (d := 92) (bb := true) rfl rfl rfl (by simp [eval_put_ne, eval_put_eq, size_put, hts]) (by simp [size_put, hts])) (fun _ _ _ h => h) ?_
            refine tkNS 13 94 hS0 rfl rfl (by kernel_rfl) (by kernel_rfl) (by kernel_rfl) (by kernel_rfl) (wanted_not (j := 11) (d := 92) (bb := true) rfl rfl rfl (by simp [eval_put_ne, eval_put_eq, size_put, hts]) (by simp [size_put, hts])) (fun _ _ _ h => h) ?_
            refine tkNS 14 95 hS0 rfl rfl (by kernel_rfl) (by kernel_rfl) (by kernel_rfl) (by kernel_rfl) (wanted_not (j := 11) (d := 92) (bb := true) rfl rfl rfl (by simp [eval_put_ne, eval_put_eq, size_put, hts]) (by simp [size_put, hts])) (fun _ _ _ h => h) ?_
            refine tkNS 15 96 hS0 rfl rfl (by kernel_rfl) (by kernel_rfl) (by kernel_rfl) (by kernel_rfl) (wanted_not (j := 11) (d := 92) (bb := true) rfl rfl rfl (by simp [eval_put_ne, eval_put_eq, size_put, hts]) (by simp [size_put, hts])) (fun _ _ _ h => h) ?_
            refine tkNS 16 97 hS0 rfl rfl (by kernel_rfl) (by kernel_rfl) (by kernel_rfl) (by kernel_rfl) (wanted_not (j := 11) (d := 92) (bb := true) rfl rfl rfl (by simp [eval_put_ne, eval_put_eq, size_put, hts]) (by simp [size_put, hts])) (fun _ _ _ h => h) ?_
            refine tkNS 17 98 hS0 rfl rfl (by kernel_rfl) (by kernel_rfl) (by kernel_rfl) (by kernel_rfl) (wanted_not (j := 11) (d := 92) (bb := true) rfl rfl rfl (by simp [eval_put_ne, eval_put_eq, size_put, hts]) (by simp [size_put, hts])) (fun _ _ _ h => h) ?_
            refine tkNS 18 99 hS0 rfl rfl (by kernel_rfl) (by kernel_rfl) (by kernel_rfl) (by kernel_rfl) (wanted_not (j := 11) (d := 92) (bb := true) rfl rfl rfl (by simp [eval_put_ne, eval_put_eq, size_put, hts]) (by simp [size_put, hts])) (fun _ _ _ h => h) ?_
            refine tkNS 19 100 hS0 rfl rfl (by kernel_rfl) (by kernel_rfl) (by kernel_rfl) (by kernel_rfl) (wanted_not (j := 11) (d := 92) (bb := true) rfl rfl rfl (by simp [eval_put_ne, eval_put_eq, size_put, hts]) (by simp [size_put, hts])) (fun _ _ _ h => h) ?_
            refine tkNS 20 101 hS0 rfl rfl (by kernel_rfl) (by kernel_rfl) (by kernel_rfl) (by kernel_rfl) (wanted_not (j := 11) (d := 92) (bb := true) rfl rfl rfl (by simp [eval_put_ne, eval_put_eq, size_put, hts]) (by simp [size_put, hts])) (fun _ _ _ h => h) ?_
            refine tkS 21 102 (v := .bool false) hS0 rfl rfl (by kernel_rfl) (by kernel_rfl) (by kernel_rfl) (by kernel_rfl) (wanted_some (j := 8) (d := 89) (bb := false) rfl rfl rfl (by simp [eval_put_ne, eval_put_eq, size_put, hts]) (by simp [size_put, hts])) (fun _ _ _ h => h) (fun U hU => r_pickF (by simp [eval_put_ne, eval_put_eq, size_put, hts]) rfl) ?_
            refine tkS 22 103 (v := .bool false) hS0 rfl rfl (by kernel_rfl) (by kernel_rfl) (by kernel_rfl) (by kernel_rfl) (wanted_none rfl) (fun _ _ _ h => h) (fun U hU => r_pickF (by simp [eval_put_ne, eval_put_eq, size_put, hts]) (by simp [eval_put_ne, eval_put_eq, size_put, hts])) ?_
            refine doneS (by kernel_rfl) ?_
            have HKj8 := hide (HKj7.out.trans hkw (fun _ _ h => h))
            clear cBw msw srw hS0 hkw hheap
            rw [hfr.out]
            clear hfr e7 e10 e12 e13 hts
            simp only [put_lit, put_none, List.set_cons_succ, List.set_cons_zero]
            go_wp2
            go_roundw
            case rel => exact ⟨1, by simp, by omega, HKj8⟩
            case measure => simp [intOf]; omega
          · obtain ⟨i, rfl⟩ : ∃ i, j = i + 1 := ⟨j - 1, by omega⟩
            obtain ⟨pb, hpb, hlt⟩ := HCl0.out i rfl
            have HCl : Hid (w7.cell? ⟨lg, lo + i * 2, none⟩ = some (.int .i64 pb)) := hide (HKw.out.cell_of hpb)
            have HLt : Hid (decide (pb ≥ xb) = false) := hide (by
              have h : pb < xb := hlt
              simp; omega)
            clear c0 c1 HCl0 hpb hlt
            refine hold_frame (p := fun fr => Code.wp Try.prog _ _ fr _) ?_
            intro fr hfr
            have e7 : fr.eval (.tmp 7) = .map (some bl) := by rw [hfr.out]; rfl
            have e10 : fr.eval (.tmp 10) = .slice (some ⟨lg, lo, none⟩) N lc := by rw [hfr.out]; rfl
            have e12 : fr.eval (.tmp 12) = .int .i64 ((i + 1 : Nat) : Int) := by rw [hfr.out]; rfl
            have e13 : fr.eval (.tmp 13) = .pointer (some ⟨cB, 0, none⟩) := by rw [hfr.out]; rfl
            have hts : fr.tmps.size = 120 := by rw [hfr.out]; rfl
            refine region_S0 99 Try.mixed ?_
            intro w0 hkw hheap
            have cBw := hkw.blk HCB.out (fun h => h)
            have msw := HMp.out.kept (HKw.out.trans hkw (fun _ _ h => h)) (fun h => h)
            have srw := HSr.out.kept (HKw.out.trans hkw (fun _ _ h => h))
            have clw := hkw.cell_of HCl.out
            have hS0 : Kept (fun _ => False) w0 w0 := Kept.refl (fun _ => False) w0
            refine ⟨Kept (fun _ => False) w0, ?_⟩
            refine tkS 0 81 (v := .map (some bl)) hS0 rfl rfl (by kernel_rfl) (by kernel_rfl) (by kernel_rfl) (by kernel_rfl) (wanted_none rfl) (fun _ _ _ h => h) (fun U hU => r_move (by simp [eval_put_ne, eval_put_eq, size_put, hts, e7])) ?_
            refine tkS 1 82 (v := .pointer (some ⟨cB, 0, none⟩)) hS0 rfl rfl (by kernel_rfl) (by kernel_rfl) (by kernel_rfl) (by kernel_rfl) (wanted_none rfl) (fun _ _ _ h => h) (fun U hU => r_fW0 (by simp [eval_put_ne, eval_put_eq, size_put, hts, e13])) ?_
            refine tkS 2 83 (v := .int .i64 xb) hS0 rfl rfl (by kernel_rfl) (by kernel_rfl) (by kernel_rfl) (by kernel_rfl) (wanted_none rfl) (fun _ _ _ h => h) (fun U hU => r_ldI (by simp [eval_put_ne, eval_put_eq, size_put, hts]) ((hU.blk cBw (fun h => h)).cell 0)) ?_
            refine tkS 3 84 (v := .string (strN xB)) hS0 rfl rfl (by kernel_rfl) (by kernel_rfl) (by kernel_rfl) (by kernel_rfl) (wanted_none rfl) (fun _ _ _ h => h) (fun U hU => r_look (by simp [eval_put_ne, eval_put_eq, size_put, hts]) (by simp [eval_put_ne, eval_put_eq, size_put, hts]) ((msw.kept hU (fun h => h)).look Try.underlying59 HXb.out |>.trans (by rw [HFd.out]; rfl))) ?_
            refine tkS 4 85 (v := .pointer (some ⟨cB, 1, none⟩)) hS0 rfl rfl (by kernel_rfl) (by kernel_rfl) (by kernel_rfl) (by kernel_rfl) (wanted_none rfl) (fun _ _ _ h => h) (fun U hU => r_fW1 (by simp [eval_put_ne, eval_put_eq, size_put, hts, e13])) ?_
            refine tkS 5 86 (v := .slice xa xn xc) hS0 rfl rfl (by kernel_rfl) (by kernel_rfl) (by kernel_rfl) (by kernel_rfl) (wanted_none rfl) (fun _ _ _ h => h) (fun U hU => r_ld25 (by simp [eval_put_ne, eval_put_eq, size_put, hts]) ((hU.blk cBw (fun h => h)).cell 1)) ?_
            refine tkS 6 87 (v := .string (strN xB)) hS0 rfl rfl (by kernel_rfl) (by kernel_rfl) (by kernel_rfl) (by kernel_rfl) (wanted_none rfl) (fun _ _ _ h => h) (fun U hU => r_strS (by simp [eval_put_ne, eval_put_eq, size_put, hts]) (srw.kept hU)) ?_
            refine tkS 7 88 (v := .bool false) hS0 rfl rfl (by kernel_rfl) (by kernel_rfl) (by kernel_rfl) (by kernel_rfl) (wanted_none rfl) (fun _ _ _ h => h) (fun U hU => (r_neq9 (p := strN xB) (q := strN xB) (by simp [eval_put_ne, eval_put_eq, size_put, hts]) (by simp [eval_put_ne, eval_put_eq, size_put, hts])).trans (by simp)) ?_
            refine tkS 8 89 (v := .bool false) hS0 rfl rfl (by kernel_rfl) (by kernel_rfl) (by kernel_rfl) (by kernel_rfl) (wanted_none rfl) (fun _ _ _ h => h) (fun U hU => r_move (by simp [eval_put_ne, eval_put_eq, size_put, hts])) ?_
            refine tkS 9 90 (v := .int .i64 ((i + 1 : Nat) : Int)) hS0 rfl rfl (by kernel_rfl) (by kernel_rfl) (by kernel_rfl) (by kernel_rfl) (wanted_some (j := 8) (d := 89) (bb := false) rfl rfl rfl (by simp [eval_put_ne, eval_put_eq, size_put, hts]) (by simp [size_put, hts])) (fun _ _ _ h => h) (fun U hU => r_move (by simp [eval_put_ne, eval_put_eq, size_put, hts, e12])) ?_
            refine tkS 10 91 (v := .bool true) hS0 rfl rfl (by kernel_rfl) (by kernel_rfl) (by kernel_rfl) (by kernel_rfl) (wanted_some (j := 8) (d := 89) (bb := false) rfl rfl rfl (by simp [eval_put_ne, eval_put_eq, size_put, hts]) (by simp [size_put, hts])) (fun _ _ _ h => h) (fun U hU => (r_gtr3 (p := ((i + 1 : Nat) : Int)) (q := 0) (by simp [eval_put_ne, eval_put_eq, size_put, hts]) rfl).trans (by simp; try omega)) ?_
            refine tkS 11 92 (v := .bool true) hS0 rfl rfl (by kernel_rfl) (by kernel_rfl) (by kernel_rfl) (by kernel_rfl) (wanted_some (j := 8) (d := 89) (bb := false) rfl rfl rfl (by simp [eval_put_ne, eval_put_eq, size_put, hts]) (by simp [size_put, hts])) (fun _ _ _ h => h) (fun U hU => r_move (by simp [eval_put_ne, eval_put_eq, size_put, hts])) ?_
            refine tkS 12 93 (v := .slice (some ⟨lg, lo, none⟩) N lc) hS0 rfl rfl (by kernel_rfl) (by kernel_rfl) (by kernel_rfl) (by kernel_rfl) (wanted_some (j := 11) (d := 92) (bb := true) rfl rfl rfl (by simp [eval_put_ne, eval_put_eq, size_put, hts]) (by simp [size_put, hts])) (fun _ _ _ h => h) (fun U hU => r_move (by simp [eval_put_ne, eval_put_eq, size_put, hts, e10])) ?_
            refine tkS 13 94 (v := .int .i64 ((i + 1 : Nat) : Int)) hS0 rfl rfl (by kernel_rfl) (by kernel_rfl) (by kernel_rfl) (by kernel_rfl) (wanted_some (j := 11) (d := 92) (bb := true) rfl rfl rfl (by simp [eval_put_ne, eval_put_eq, size_put, hts]) (by simp [size_put, hts])) (fun _ _ _ h => h) (fun U hU => r_move (by simp [eval_put_ne, eval_put_eq, size_put, hts, e12])) ?_
            refine tkS 14 95 (v := .int .i64 ((i : Nat) : Int)) hS0 rfl rfl (by kernel_rfl) (by kernel_rfl) (by kernel_rfl) (by kernel_rfl) (wanted_some (j := 11) (d := 92) (bb := true) rfl rfl rfl (by simp [eval_put_ne, eval_put_eq, size_put, hts]) (by simp [size_put, hts])) (fun _ _ _ h => h) (fun U hU => r_subk (m := i) (by omega) (by simp [eval_put_ne, eval_put_eq, size_put, hts]) rfl) ?_
            refine tkS 15 96 (v := .pointer (some ⟨lg, lo + i * 2, none⟩)) hS0 rfl rfl (by kernel_rfl) (by kernel_rfl) (by kernel_rfl) (by kernel_rfl) (wanted_some (j := 11) (d := 92) (bb := true) rfl rfl rfl (by simp [eval_put_ne, eval_put_eq, size_put, hts]) (by simp [size_put, hts])) (fun _ _ _ h => h) (fun U hU => r_ix22 i (b := lg) (off := lo) (len := N) (cap := lc) (kk := .i64) (by simp [eval_put_ne, eval_put_eq, size_put, hts]) (by simp [eval_put_ne, eval_put_eq, size_put, hts]) (by omega)) ?_
            refine tkS 16 97 (v := .pointer (some ⟨lg, lo + i * 2, none⟩)) hS0 rfl rfl (by kernel_rfl) (by kernel_rfl) (by kernel_rfl) (by kernel_rfl) (wanted_some (j := 11) (d := 92) (bb := true) rfl rfl rfl (by simp [eval_put_ne, eval_put_eq, size_put, hts]) (by simp [size_put, hts])) (fun _ _ _ h => h) (fun U hU => r_fWo (by simp [eval_put_ne, eval_put_eq, size_put, hts])) ?_
            refine tkS 17 98 (v := .int .i64 pb) hS0 rfl rfl (by kernel_rfl) (by kernel_rfl) (by kernel_rfl) (by kernel_rfl) (wanted_some (j := 11) (d := 92) (bb := true) rfl rfl rfl (by simp [eval_put_ne, eval_put_eq, size_put, hts]) (by simp [size_put, hts])) (fun _ _ _ h => h) (fun U hU => r_ldI (by simp [eval_put_ne, eval_put_eq, size_put, hts]) (hU.cell_of clw)) ?_
            refine tkS 18 99 (v := .pointer (some ⟨cB, 0, none⟩)) hS0 rfl rfl (by kernel_rfl) (by kernel_rfl) (by kernel_rfl) (by kernel_rfl) (wanted_some (j := 11) (d := 92) (bb := true) rfl rfl rfl (by simp [eval_put_ne, eval_put_eq, size_put, hts]) (by simp [size_put, hts])) (fun _ _ _ h => h) (fun U hU => r_fW0 (by simp [eval_put_ne, eval_put_eq, size_put, hts, e13])) ?_
            refine tkS 19 100 (v := .int .i64 xb) hS0 rfl rfl (by kernel_rfl) (by kernel_rfl) (by kernel_rfl) (by kernel_rfl) (wanted_some (j := 11) (d := 92) (bb := true) rfl rfl rfl (by simp [eval_put_ne, eval_put_eq, size_put, hts]) (by simp [size_put, hts])) (fun _ _ _ h => h) (fun U hU => r_ldI (by simp [eval_put_ne, eval_put_eq, size_put, hts]) ((hU.blk cBw (fun h => h)).cell 0)) ?_
            refine tkS 20 101 (v := .bool false) hS0 rfl rfl (by kernel_rfl) (by kernel_rfl) (by kernel_rfl) (by kernel_rfl) (wanted_some (j := 11) (d := 92) (bb := true) rfl rfl rfl (by simp [eval_put_ne, eval_put_eq, size_put, hts]) (by simp [size_put, hts])) (fun _ _ _ h => h) (fun U hU => (r_geq3 (p := pb) (q := xb) (by simp [eval_put_ne, eval_put_eq, size_put, hts]) (by simp [eval_put_ne, eval_put_eq, size_put, hts])).trans (by rw [HLt.out])) ?_
            refine tkS 21 102 (v := .bool false) hS0 rfl rfl (by kernel_rfl) (by kernel_rfl) (by kernel_rfl) (by kernel_rfl) (wanted_some (j := 8) (d := 89) (bb := false) rfl rfl rfl (by simp [eval_put_ne, eval_put_eq, size_put, hts]) (by simp [size_put, hts])) (fun _ _ _ h => h) (fun U hU => r_pick (by simp [eval_put_ne, eval_put_eq, size_put, hts]) (by simp [eval_put_ne, eval_put_eq, size_put, hts])) ?_
            refine tkS 22 103 (v := .bool false) hS0 rfl rfl (by kernel_rfl) (by kernel_rfl) (by kernel_rfl) (by kernel_rfl) (wanted_none rfl) (fun _ _ _ h => h) (fun U hU => r_pickF (by simp [eval_put_ne, eval_put_eq, size_put, hts]) (by simp [eval_put_ne, eval_put_eq, size_put, hts])) ?_
            refine doneS (by kernel_rfl) ?_
            have HKj8 := hide (HKj7.out.trans hkw (fun _ _ h => h))
            clear cBw msw srw hS0 hkw hheap clw
            rw [hfr.out]
            clear hfr e7 e10 e12 e13 hts
            simp only [put_lit, put_none, List.set_cons_succ, List.set_cons_zero]
            go_wp2
            go_roundw
            case rel => exact ⟨i + 1 + 1, by simp, by omega, HKj8⟩
            case measure => simp [intOf]; omega
        · obtain rfl : N = j := by omega
          have HS6 := hide (HS5.out.same HKj.out)
          clear hjt hj
          go_wp2_with fail
          refine (end_at wr b 8 (laF false) (txF false M) X HS6.out.tw.at_ (txF_len _ _) 1).mono ?_
          rintro e w8 ⟨he, hs8⟩
          rw [txF_has, if_pos rfl] at he
          rw [txF_del] at hs8
          subst he
          obtain ⟨X8, ht8, _, _⟩ := HS6.out.tw.step hs8
          have T8 := hide ht8
          clear hs8 ht8
          go_wp2_with fail
          refine (writes_no w8 b 8 (laF false) [] X8 T8.out.at_ (by decide) 1 rfl).mono ?_
          rintro e w9 ⟨rfl, hk9⟩
          have HK9 := hide (T8.out.kept.trans hk9 (fun _ _ h => h))
          clear hk9
          go_wp2
          go_ret
          exact ⟨rfl, HK9.out⟩
end Go.Proofs.Ytclfklcboigifaa
