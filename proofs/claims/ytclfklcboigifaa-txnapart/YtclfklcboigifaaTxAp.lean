/-
  TxnApart, walked.
-/
import Derived.Test.YtclfklcboigifaaTxWrM
namespace Go.Proofs.Ytclfklcboigifaa
open Go.RowKit Go.Shelf
set_option linter.unusedSimpArgs false
set_option linter.unusedVariables false
set_option maxRecDepth 100000

theorem map_nil {ws : List Wv} (h : ws.map Wv.wr = []) : ws = [] := by simpa using h
set_option maxHeartbeats 8000000 in
theorem txapart_at (W : World) (v : Value) (m : Nat) (hl : OpsT W v m) : Calls Try.prog 4 #[v] W fun e w' => e = .returned (.bool true) ∧ Kept (fun _ => False) W w' := by
  obtain ⟨ao, cap, rfl, hm⟩ := hl.slice
  have HOps := hide hl
  obtain ⟨i5, hi5, hz5, hs5, hb5⟩ := info_parts Try.info42
  have Hi5 := hide hi5
  have Hz5 := hide hz5
  obtain ⟨i2, hi2, hz2, hs2, hb2⟩ := info_parts Try.info5
  have Hi2 := hide hi2
  have Hz2 := hide hz2
  have Hs2 := hide hs2
  clear hl hi5 hz5 hs5 hb5 hi2 hz2 hs2 hb2
  go_enter Try.func4, Try.ntmps4
  go_wp2_with fail
  refine (first_at W).mono ?_
  rintro e w1 ⟨rfl, hk1⟩
  have HK1 := hide hk1
  clear hk1
  go_wp2_with fail
  refine (txnew_ok w1 8 (by decide) (by decide)).mono ?_
  rintro e w2 ⟨b, X2, rfl, hb2, hk2, hn2⟩
  have T2 : Hid (Tw W w2 b 8 0 [] X2) := hide ⟨hb2, HK1.out.trans hk2 (fun _ _ h => h), fun k hk => Nat.le_trans HK1.out.size (hn2 k hk)⟩
  clear hb2 hk2 hn2 HK1
  go_wp2_with fail
  refine (begin_ok w2 b 8 0 [] X2 T2.out.at_ (by decide) (by decide)).mono ?_
  rintro e w3 ⟨rfl, hs3⟩
  obtain ⟨X3, ht3, _, _⟩ := T2.out.step hs3
  have T3 : Hid (Tw W w3 b 8 1 [(1, [])] X3) := hide ht3
  clear hs3 ht3 T2
  simp only [Int.zero_add]
  go_wp2_with fail
  refine (begin_ok w3 b 8 1 [(1, [])] X3 T3.out.at_ (by decide) (by decide)).mono ?_
  rintro e w3' ⟨rfl, hs3⟩
  obtain ⟨X3', ht3, _, _⟩ := T3.out.step hs3
  have T4 : Hid (Tw W w3' b 8 2 (txF true []) X3') := hide ht3
  have h11 : (1 : Int) + 1 = 2 := rfl
  rw [h11]
  clear hs3 ht3 T3 h11
  go_wp2_with (first
    | (with_reducible refine aw_makeMap (t := 59) ?_)
    | fail)
  intro w4 hw4
  obtain ⟨bl, hbl⟩ : ∃ bl, w3'.heap.size = bl := ⟨_, rfl⟩
  have HS0 : Hid (WSt true W w4 b bl 0 [] X3') := hide
    { tw := T4.out.same (by rw [hw4]; exact Kept.alloc _ _ _), mp := by rw [hw4, ← hbl]; exact MapS.made w3', ri := trivial, ok := by (intro x hx; simp [txF] at hx; rcases hx with rfl | rfl <;> exact ⟨Nat.le_refl _, by simp, trivial⟩),
      inn := by simp, nx := fun h => by have := T4.out.lt bl h; omega, ge := by rw [← hbl]; exact T4.out.kept.size }
  rw [hbl]
  clear T4 hw4 hbl
  go_wp2
  go_loopw [43] (fun i wr => ∃ (k : Nat) (M : List Wr) (X : NSet), i = .int .i64 k ∧ k ≤ m ∧ k ≤ 40 ∧ Hid (WSt true W wr b bl k M X)) (fun i _ => m - (intOf i).toNat)
  case atStart => exact ⟨0, [], X3', rfl, Nat.zero_le _, by omega, HS0⟩
  case round =>
    clear HS0
    obtain ⟨k, M, X, rfl, hk, hk40, HS⟩ := hrel
    by_cases hlt : k < m
    · obtain ⟨g, off, ⟨kd, hh, kk, ⟨sa, sn, sc⟩, B⟩, rfl, hcr, hop, hop0⟩ := HOps.out.get HS.out.tw.kept hlt
      have hsn := hop.len
      simp only at hsn
      subst hsn
      have Hcr : Hid (Cells wr g (off + k * 4) [Value.int .i64 kd, .int .i64 hh, .int .i64 kk, .slice sa B.length sc]) := hide hcr
      have HO := hide hop0
      clear hcr hop hop0
      by_cases h40 : 40 ≤ k
      · have h40I : (40 : Int) ≤ (k : Int) := by omega
        go_wp2_with (first
          | (with_reducible refine aw_loadC Try.agg42 rfl Hcr.out rfl ?_)
          | ((with_reducible refine aw_alloc (t := 42) Hi5.out Hz5.out ?_); intro w3 hw3 hk3 hz3; have Hz3 := hide hz3; clear hz3)
          | ((with_reducible refine aw_store (M := [Value.int .i64 kd, .int .i64 hh, .int .i64 kk, .slice sa B.length sc]) Try.agg42 rfl rfl rfl (by simp [Value.oneCell']) hw3 (by simp [Value.cells]) ?_); intro w4 hw4 hk4 hz4; rw [put_whole _ _ (by simp [Value.cells])] at hw4; have HK34 := hide (hk3.trans hk4 (S := fun _ => False) (fun i hi h => by omega)); have f2 : w4.cell? ⟨wr.heap.size, 2, none⟩ = some (.int .i64 kk) := hw4.cell 2; have f3 : w4.cell? ⟨wr.heap.size, 3, none⟩ = some (.slice sa B.length sc) := hw4.cell 3; have HW4 := hide hw4; clear hz4 hw3 hk3 hk4 hw4)
          | fail)
        go_ret
        exact ⟨rfl, HS.out.tw.kept.trans HK34.out (fun _ _ h => h)⟩
      · have h40I : ¬ (40 : Int) ≤ (k : Int) := by omega
        by_cases h200 : 200 < B.length
        · have h200I : (200 : Int) < (B.length : Int) := by omega
          go_wp2_with (first
            | (with_reducible refine aw_loadC Try.agg42 rfl Hcr.out rfl ?_)
            | ((with_reducible refine aw_alloc (t := 42) Hi5.out Hz5.out ?_); intro w3 hw3 hk3 hz3; have Hz3 := hide hz3; clear hz3)
            | ((with_reducible refine aw_store (M := [Value.int .i64 kd, .int .i64 hh, .int .i64 kk, .slice sa B.length sc]) Try.agg42 rfl rfl rfl (by simp [Value.oneCell']) hw3 (by simp [Value.cells]) ?_); intro w4 hw4 hk4 hz4; rw [put_whole _ _ (by simp [Value.cells])] at hw4; have HK34 := hide (hk3.trans hk4 (S := fun _ => False) (fun i hi h => by omega)); have f2 : w4.cell? ⟨wr.heap.size, 2, none⟩ = some (.int .i64 kk) := hw4.cell 2; have f3 : w4.cell? ⟨wr.heap.size, 3, none⟩ = some (.slice sa B.length sc) := hw4.cell 3; have HW4 := hide hw4; clear hz4 hw3 hk3 hk4 hw4)
            | fail)
          go_ret
          exact ⟨rfl, HS.out.tw.kept.trans HK34.out (fun _ _ h => h)⟩
        · have h200I : ¬ (200 : Int) < (B.length : Int) := by omega
          go_wp2_with (first
            | (with_reducible refine aw_loadC Try.agg42 rfl Hcr.out rfl ?_)
            | ((with_reducible refine aw_alloc (t := 42) Hi5.out Hz5.out ?_); intro w3 hw3 hk3 hz3; have Hz3 := hide hz3; clear hz3)
            | ((with_reducible refine aw_store (M := [Value.int .i64 kd, .int .i64 hh, .int .i64 kk, .slice sa B.length sc]) Try.agg42 rfl rfl rfl (by simp [Value.oneCell']) hw3 (by simp [Value.cells]) ?_); intro w4 hw4 hk4 hz4; rw [put_whole _ _ (by simp [Value.cells])] at hw4; have HK34 := hide (hk3.trans hk4 (S := fun _ => False) (fun i hi h => by omega)); have f2 : w4.cell? ⟨wr.heap.size, 2, none⟩ = some (.int .i64 kk) := hw4.cell 2; have f3 : w4.cell? ⟨wr.heap.size, 3, none⟩ = some (.slice sa B.length sc) := hw4.cell 3; have HW4 := hide hw4; clear hz4 hw3 hk3 hk4 hw4)
            | (with_reducible refine stop_bs 40 ?_)
            | fail)
          have HnX : Hid (¬ X wr.heap.size) := hide (fun h => by have := HS.out.tw.lt _ h; omega)
          refine hide ?_
          refine wpList_run rfl (run_bs1 Try.underlying40 Hi2.out Hz2.out Hs2.out [] rfl (by simp) (by simp [Value.cells]) rfl) ?_
          have hb1 := Blk.new w4 [] 5
          have hk1 : Kept (fun _ => False) w4 (w4.alloc (.cells ([] : List Value).toArray 5)) := Kept.alloc _ _ _
          have hz1 : (w4.alloc (.cells ([] : List Value).toArray 5)).heap.size = w4.heap.size + 1 := by simp
          obtain ⟨g1, hg1⟩ : ∃ g1, w4.heap.size = g1 := ⟨_, rfl⟩
          rw [hg1] at hb1 hz1 ⊢
          generalize w4.alloc (.cells ([] : List Value).toArray 5) = w5 at hb1 hk1 hz1 ⊢
          have ho : Own w5 0 (.slice (some ⟨g1, 0, none⟩) 0 0) [] := ⟨ownsRow_of (xs := []) (C := []) hb1 rfl (Nat.le_refl _) (Nat.zero_le _) rfl, by simp⟩
          have hsrc5 : Src w5 (.slice sa B.length sc) B := (HO.out.kept ((HS.out.tw.kept.trans HK34.out (fun _ _ h => h)).trans hk1 (fun _ _ h => h))).src
          obtain ⟨v', w6, hr, ho2, hk2, hv2⟩ := append_src ho hsrc5 (by simp; omega) (Nat.zero_le _) 40
          have hk46 : Kept (fun _ => False) w4 w6 := hk1.trans hk2 (fun i hi h => by simp [Value.ownBlock] at h; omega)
          have hdn : ∀ j, v'.ownBlock = some j → w4.heap.size ≤ j := fun j hj => by
            rcases hv2 with h | h
            · rw [h] at hj; simp [Value.ownBlock] at hj; omega
            · rw [h] at hj; simp at hj; omega
          rw [List.nil_append] at ho2
          obtain ⟨da, dc, rfl⟩ : ∃ da dc, v' = .slice da B.length dc := by
            obtain ⟨bo, c', e, _⟩ := ho2.src
            exact ⟨bo, c', by simpa using e⟩
          have HR := hide hr
          have HD := hide ho2
          have HDn := hide hdn
          have HS6 := hide ((HS.out.same HK34.out).same hk46)
          have HWo := hide (hk46.blk HW4.out (fun h => h))
          have HWr : Hid (wr.heap.size ≤ w4.heap.size ∧ w4.heap.size ≤ w6.heap.size) := hide ⟨HK34.out.size, hk46.size⟩
          have e2 : w6.cell? ⟨wr.heap.size, 2, none⟩ = some (.int .i64 kk) := HWo.out.cell 2
          have e3 : w6.cell? ⟨wr.heap.size, 3, none⟩ = some (.slice sa B.length sc) := HWo.out.cell 3
          have e5 : w5.cell? ⟨wr.heap.size, 3, none⟩ = some (.slice sa B.length sc) := (hk1.blk HW4.out (fun h => h)).cell 3
          clear hb1 hk1 hz1 ho hsrc5 hr ho2 hk2 hv2 hk46 hdn
          simp only [put_lit, put_none, List.set_cons_succ, List.set_cons_zero]
          go_wp2_with (first
            | (with_reducible refine stop_app2 40 40 ?_)
            | fail)
          refine hide ?_
          refine wpList_run rfl (r_app rfl rfl HR.out) ?_
          clear HR f2 f3 e5
          simp only [put_lit, put_none, List.set_cons_succ, List.set_cons_zero]
          go_wp2_with fail
          refine (write_at w6 b 8 (laF true) (txF true M) X HS6.out.tw.at_ (txF_len _ _) k (by omega) HS6.out.ok 1 kk ⟨da, B.length, dc⟩ B HD.out.src).mono ?_
          rintro e w7 ⟨rfl, hs7⟩
          by_cases he : txWE 8 (txF true M) 1 kk B.length = 0
          · obtain ⟨X7, hx7, hk7, hn7⟩ := HS6.out.yes he hs7
            have h64 := (txF_we he).2.2
            have hdX : ∀ j, (Value.slice da B.length dc).ownBlock = some j → ¬ X j := fun j hj h => by
              have := HDn.out j hj
              have := HS.out.tw.lt j h
              have := HWr.out.1
              omega
            have ho7 := ownsRow_kept HD.out.1 hk7 (fun j hj h => hdX j hj h)
            rcases ownsRow_blk ho7 with ⟨_, h0, _⟩ | ⟨gd, dcap, dC, ed, hbd, _⟩
            · omega
            cases ed
            have hgd := HDn.out gd rfl
            have hgX : ¬ X7 gd := fun h => by
              rcases hn7 gd h with h | h
              · exact hdX gd rfl h
              · have := ownsRow_lt HD.out.1 gd rfl; omega
            have hw7 := hk7.blk HWo.out HnX.out
            have f2' : w7.cell? ⟨wr.heap.size, 2, none⟩ = some (.int .i64 kk) := hw7.cell 2
            have f3' : w7.cell? ⟨wr.heap.size, 3, none⟩ = some (.slice sa B.length sc) := hw7.cell 3
            have HX7 := hide hx7
            have HSrc := hide ((HO.out.kept hx7.tw.kept).src)
            have Hkk := hide HO.out.kk
            have HBd := hide hbd
            have HGd : Hid (¬ X7 gd ∧ W.heap.size ≤ gd) := hide ⟨hgX, by have := HS.out.tw.kept.size; have := HWr.out.1; omega⟩
            have H64 := hide h64
            rw [he]
            clear e2 e3 hs7 hx7 hk7 hn7 hw7 he HS6 HnX hdX ho7 hbd hgd hgX HD HDn HWo h64
            go_wp2_with (first
              | (with_reducible refine stop_convert 40 9 ?_)
              | fail)
            refine hide ?_
            refine wpList_run rfl (r_strS rfl HSrc.out) ?_
            try simp only [put_lit, put_none, List.set_cons_succ, List.set_cons_zero]
            go_wp2_with (first
              | (with_reducible refine stop_mu 59 ?_)
              | fail)
            refine hide ?_
            obtain ⟨w8, hrun, hm8, hk8⟩ := HX7.out.mp.update HX7.out.ri Try.underlying59 (by unfold maxLen; omega) Hkk.out (B := B) (by omega)
            refine aw_mu rfl rfl rfl hrun ?_
            have hbne := HX7.out.mp.ne HBd.out
            have hb8 := hk8.blk HBd.out (fun e => hbne e.symm)
            have HS8 := hide (HX7.out.done hm8 hk8)
            obtain ⟨x0, hx0⟩ : ∃ x0 : Nat, (BV B ++ dC)[0]? = some (.int .u8 (x0 : Int)) := by
              have hl : 0 < B.length := by rw [H64.out]; decide
              refine ⟨B[0], ?_⟩
              rw [List.getElem?_append_left (by rw [BV_length]; exact hl)]
              unfold BV
              rw [List.getElem?_map, List.getElem?_eq_getElem hl]
              rfl
            have c0 : w8.cell? ⟨gd, 0, none⟩ = some (.int .u8 (x0 : Int)) := by rw [hb8.cell]; exact hx0
            have g0 : w8.frozen? ⟨gd, 0, none⟩ = false := hb8.frozen 0
            obtain ⟨y0, hy0⟩ : ∃ y0, IntKind.u8.wrap ((x0 : Int) + 1) = y0 := ⟨_, rfl⟩
            have HNe := hide hbne
            have h0B : ¬ B.length = 0 := by rw [H64.out]; decide
            have h0I : (0 : Int) < (B.length : Int) := by have := H64.out; omega
            clear hrun hm8 hk8 HX7 f2' f3' HSrc Hkk hbne hb8 hx0 HBd
            try simp only [put_lit, put_none, List.set_cons_succ, List.set_cons_zero]
            go_wp2
            go_roundw
            case rel => exact ⟨k + 1, _, X7, by simp, by omega, by omega, hide (HS8.out.own (Kept.setCell (S := fun j => j = gd) w8 ⟨gd, 0, none⟩ (.int .u8 y0) rfl) HGd.out.1 HNe.out HGd.out.2)⟩
            case measure => simp [intOf]; omega
          · obtain ⟨X7, hx7, hk7, hn7⟩ := HS6.out.no he hs7
            have HX7 := hide hx7.next
            obtain ⟨er, her⟩ : ∃ er, txWE 8 (txF true M) 1 kk B.length = er := ⟨_, rfl⟩
            rw [her] at he ⊢
            clear e2 e3 hs7 hx7 hk7 hn7 HS6 HnX her HD HDn HWo
            go_wp2
            go_roundw
            case rel => exact ⟨k + 1, M, X7, by simp, by omega, by omega, HX7⟩
            case measure => simp [intOf]; omega
    · obtain rfl : m = k := by omega
      clear hlt hk
      have HM40 : Hid (m ≤ 40) := hide hk40
      clear hk40 hm
      go_wp2
      go_loopw [79] (fun i wq => ∃ j : Nat, i = .int .i64 j ∧ j ≤ 8 ∧ Hid (WSt true W wq b bl m M X)) (fun i _ => 8 - (intOf i).toNat)
      case atStart => exact ⟨0, rfl, Nat.zero_le _, HS⟩
      case round =>
        clear HS
        obtain ⟨j, rfl, hj, HS⟩ := hrel
        by_cases hjt : j < 8
        · have hjI : (j : Int) < 8 := by omega
          go_wp2_with fail
          refine (read_ok _ b 8 (laF true) (txF true M) X HS.out.tw.at_ (txF_len _ _) m (by have := HM40.out; omega) HS.out.ok 1 j (txF_err2 M j ⟨by omega, hjI⟩ true).1).mono ?_
          rintro e w9 ⟨⟨xa, xn, xc⟩, rfl, hx9, hk9⟩
          rw [txF_val] at hx9 ⊢
          have HS9 := hide (HS.out.same hk9)
          have HX9 := hide hx9
          have hlk : (Instr.lookup 59 (.map (some bl)) (.int .i64 (j : Int)) true).run Try.prog w9 = .ok (.tuple #[.string (strN (bytesOf (findW M j))), .bool (findW M j).isSome]) w9 := HS9.out.mp.look_ok Try.underlying59 (by omega)
          clear hx9 hk9 HS
          have HBy : Hid (Src w9 (.slice xa xn xc) (bytesOf (findW M j))) := hide HX9.out
          obtain ⟨bb, hbb⟩ : ∃ bb, (findW M j).isSome = bb := ⟨_, rfl⟩
          obtain ⟨BB, hBB⟩ : ∃ BB, bytesOf (findW M j) = BB := ⟨_, rfl⟩
          rw [hbb, hBB] at hlk
          rw [hbb]
          rw [hBB] at HBy
          clear hbb hBB HX9
          go_wp2_with fail
          refine (read_ok w9 b 8 (laF true) (txF true M) X HS9.out.tw.at_ (txF_len _ _) m (by have := HM40.out; omega) HS9.out.ok 2 j (txF_err2 M j ⟨by omega, hjI⟩ true).2).mono ?_
          intro e w10 hr
          rw [(txF_two M).2] at hr
          obtain ⟨⟨ya, yn, yc⟩, rfl, _, hk10⟩ := readIs_none hr
          have HS10 := hide (HS9.out.same hk10)
          have HB10 := hide (HBy.out.kept hk10)
          have hbq : (bb != bb) = false := by simp
          clear hr hk10 HS9 HBy hlk
          go_wp2_with (first
            | (with_reducible refine stop_convertG 40 9 ?_)
            | fail)
          refine hide ?_
          refine wpList_runG rfl (r_strS rfl HB10.out) ?_
          try simp only [put_lit, put_none, List.set_cons_succ, List.set_cons_zero]
          go_wp2
          go_roundw
          case rel => exact ⟨j + 1, by simp, by omega, HS10⟩
          case measure => simp [intOf]; omega
        · obtain rfl : j = 8 := by omega
          go_wp2_with fail
          refine (writes_ok _ b 8 (laF true) (txF true M) X HS.out.tw.at_ (txF_len _ _) m (by have := HM40.out; omega) HS.out.ok 2 (txF_two M).1).mono ?_
          rintro e w5 ⟨⟨la, ln, lc⟩, ws, rfl, hws, hwr, hk5⟩
          rw [(txF_two M).2] at hwr
          obtain rfl := map_nil hwr
          obtain rfl : ln = 0 := WsAt.len hws
          have HK5 := hide (HS.out.tw.kept.trans hk5 (fun _ _ h => h))
          clear hws hwr hk5
          go_wp2
          go_ret
          exact ⟨rfl, HK5.out⟩
end Go.Proofs.Ytclfklcboigifaa
