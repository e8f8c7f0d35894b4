/-
  RingKeeps walked.
-/
import Derived.Test.YtbbhchmdggfncaaJ41
namespace Go.Proofs.Ytbbhchmdggfncaa
open Go.RowKit Go.Shelf
set_option linter.unusedSimpArgs false
set_option linter.unusedVariables false
set_option maxRecDepth 100000

/-- What holds between the rounds of the law's first loop. -/
structure LoopK (w wr : World) (b db i : Nat) (v : Value) (sure : Nat) (R : List Rv) (pre : List (List It)) (l : List It) (L : List (List Nat)) (W : List (Nat × List Nat)) (c : Nat) (pf : List (List It)) (lf : List It) (B : Nat) : Prop where
  st : StK w wr b db pre l L W c
  cb : c ≤ B
  wb : W.length ≤ 8 * i
  ro : RvOwn wr v R
  rc : R.map Rv.rc = comR (pre ++ [l])
  rl : R.length ≤ i
  new : ∀ k, v.ownBlock = some k → w.heap.size ≤ k
  gr : Grows pf lf pre l
  sure1 : ∀ p y, layAt 9 (pf ++ [lf]) p = some y → L[p]? = some y
  sure2 : sure = (comR (pf ++ [lf])).length
theorem LoopK.flush {w wr : World} {b db i : Nat} {v : Value} {sure : Nat} {R : List Rv} {pre : List (List It)} {l : List It} {L : List (List Nat)} {W : List (Nat × List Nat)} {c : Nat} {pf : List (List It)} {lf : List It} {B : Nat} (h : LoopK w wr b db i v sure R pre l L W c pf lf B) (hi : B ≤ 1000) :
    Calls Try.prog 8 #[.pointer (some ⟨db, 0, none⟩)] wr fun e w' => e = .returned (.int .i64 0) ∧ RvOwn w' v R ∧ ∃ L', StK w w' b db pre l L' [] (c + 1) ∧ ∀ p y, layAt 9 (pre ++ [l]) p = some y → L'[p]? = some y := by
  refine (h.st.flush (by have := h.cb; omega) (rv_carr h.ro)).mono ?_
  rintro e w' ⟨rfl, hc, L', h1, h2⟩
  exact ⟨rfl, hc.at, L', h1, h2⟩
theorem own_bytes {w : World} {g v : Nat} (h : Blk w g (BV (v :: List.replicate 63 0)) 5) (hv : v < 256) : Own w 0 (.slice (some ⟨g, 0, none⟩) 64 64) (v :: List.replicate 63 0) := by
  refine ⟨ownsRow_of (C := []) (by rw [List.append_nil]; exact h) (by simp [BV_length]) (by simp) (by unfold maxLen; omega) (by simp), ?_⟩
  intro x hx
  rcases List.mem_cons.1 hx with rfl | hx
  · exact hv
  · rw [List.eq_of_mem_replicate hx]; decide

set_option maxHeartbeats 16000000 in
theorem keepslaw_at (w : World) (va : Value) (A : List Nat) (ha : Src w va A) (hAl : A.length ≤ 9223372036854775807) (f : Nat) (hf : f < 256) (kv : Value) (ks : List Bool) (hkp : ∀ w' F, Kept (fun _ => False) w w' → (∀ k, F k → w.heap.size ≤ k) → D.keepIs w' kv ks F) :
    Calls Try.prog 3 #[va, .int .u8 f, kv] w fun e w' => e = .returned (.bool true) ∧ Kept (fun _ => False) w w' := by
  obtain ⟨ao, cap, rfl, hcap, hlt, hsrc, -⟩ := ha
  obtain ⟨i5, hi5, hz5, hs5, hb5⟩ := info_parts Try.info5
  have Hi5 := hide hi5
  have Hz5 := hide hz5
  have Hs5 := hide hs5
  have Hb5 := hide hb5
  obtain ⟨i37, hi37, hz37, hs37, hb37⟩ := info_parts Try.info37
  have Hi37 := hide hi37
  have Hz37 := hide hz37
  have Hs37 := hide hs37
  obtain ⟨i39, hi39, hz39, hs39, hb39⟩ := info_parts Try.info39
  have Hi39 := hide hi39
  have Hz39 := hide hz39
  have Hs39 := hide hs39
  obtain ⟨i35, hi35, hz35, hs35, hb35⟩ := info_parts Try.info35
  have Hi35 := hide hi35
  have Hs35 := hide hs35
  have HKp := hide hkp
  have HLt := hide hlt
  have HSrc := hide hsrc
  obtain ⟨n, hn⟩ : ∃ n, n = A.length := ⟨_, rfl⟩
  rw [← hn] at hcap hAl HSrc ⊢
  have Hn := hide hn
  clear hi5 hz5 hs5 hb5 hi37 hz37 hs37 hb37 hi39 hz39 hs39 hb39 hi35 hz35 hs35 hb35 hkp hlt hsrc hn
  go_enter Try.func3, Try.ntmps3
  go_wp2_with fail
  refine (rgfirst_at w).mono ?_
  rintro e w1 ⟨rfl, hk1⟩
  have K1 := hide hk1
  clear hk1
  go_wp2_with fail
  refine (D.Dv.new w w1 200 (by decide) (by decide) K1.out [] (by simp)).mono ?_
  rintro e w2 ⟨db, rfl, hd2⟩
  have D2 := hide hd2
  clear hd2
  go_wp2_with fail
  obtain ⟨F, hd, hF, -⟩ := D2.out.dev
  refine (rgnew_at w2 db 200 _ F hd 0 6 9 (by decide) (by decide) (by decide)).mono ?_
  rintro e w3 ⟨b, rfl, hl3, hk3, hb3⟩
  have R3 : Hid (Rg w w3 b 200 ⟨db, 0, 6, 9, 0⟩ (devL L0 [] 0) []) := hide (by
    rw [← devL0]
    exact ⟨⟨F, hd.kept hk3 (fun _ _ h => h), hF, fun hf => by have := hd.lt b hf; omega, by simp⟩, hl3, Nat.le_trans D2.out.kept.size hb3, D2.out.kept.trans hk3 (fun _ _ h => h), by simp⟩)
  clear hd hF hl3 hk3 hb3 D2 K1
  by_cases hbig : 20 < n
  · have hbI : (20 : Int) < (n : Int) := by omega
    go_wp2
    go_ret
    exact ⟨rfl, R3.out.kept⟩
  · have hbI : ¬ (20 : Int) < (n : Int) := by omega
    go_wp2_with fail
    refine (StK.start R3.out).mono ?_
    rintro e w4 ⟨rfl, W4, hst, hWl⟩
    have S4 := hide hst
    clear hst R3
    go_wp2_with fail
    refine (S4.out.flush (by decide) (Carr.const (p := True) trivial)).mono ?_
    rintro e w5 ⟨rfl, -, L5, hst5, hlay5⟩
    have LK5 : Hid (LoopK w w5 b db 0 (.slice none 0 0) 0 [] [] [hdI 1 1 1] L5 [] 2 [] [hdI 1 1 1] 2) := hide ⟨hst5, by decide, by decide, RvOwn.nil _, rfl, by decide, fun k h => by simp [Value.ownBlock] at h, Grows.refl _ _, hlay5, rfl⟩
    clear hst5 hlay5 hWl S4
    obtain ⟨kf, hkf⟩ : ∃ kf, kf = f % (n + 1) := ⟨_, rfl⟩
    have hkn : kf ≤ n := by have := Nat.mod_lt f (show 0 < n + 1 by omega); omega
    have hm2 : (f : Int) % ((n : Int) + 1) = (kf : Int) := by rw [hkf]; exact (Int.natCast_emod f (n + 1)).symm
    have hm1 : (f : Int).tmod ((n : Int) + 1) = (kf : Int) := by rw [Int.tmod_eq_emod_of_nonneg (by omega)]; exact hm2
    have hn0 : ¬ ((n : Int) + 1 = 0) := by omega
    have hnw : IntKind.i64.wrap ((n : Int) + 1) = (n : Int) + 1 := by rw [IntKind.wrap_i64]; omega
    have Hkf := hide hkf
    clear hkf
    go_wp2
    clear hm1 hm2 hn0 hnw
    go_loopw [12, 13, 62] (fun v sv i wr => ∃ (i' sure : Nat) (s : Sl) (R : List Rv) (pre : List (List It)) (l : List It) (L : List (List Nat)) (W : List (Nat × List Nat)) (c : Nat) (pf : List (List It)) (lf : List It), i = .int .i64 i' ∧ v = .slice s.a s.n s.c ∧ sv = .int .i64 sure ∧ i' ≤ n ∧ s.n = R.length ∧ Hid (LoopK w wr b db i' (.slice s.a s.n s.c) sure R pre l L W c pf lf (2 + 5 * i')))
      (fun _ _ i _ => n - (intOf i).toNat)
    case atStart => exact ⟨0, 0, ⟨none, 0, 0⟩, [], [], _, _, _, _, _, _, rfl, rfl, rfl, Nat.zero_le _, rfl, LK5⟩
    case round =>
      obtain ⟨i, sure, ⟨sa, sn, sc⟩, R, pre, l, L, W, c, pf, lf, rfl, rfl, rfl, hi, hsn, HL⟩ := hrel
      simp only at hsn HL ⊢
      obtain ⟨rn, hrn⟩ : ∃ rn, rn = R.length := ⟨_, rfl⟩
      rw [← hrn] at hsn
      subst hsn
      have Hrn := hide hrn
      clear hrn
      by_cases hlt : i < n
      · obtain ⟨sb, so, rfl, hcell⟩ := HSrc.out (by omega)
        have c0 : wr.cell? ⟨sb, so + i, none⟩ = some (.int .u8 (A[i]'(by rw [← Hn.out]; exact hlt))) := (HL.out.st.rg.kept.cells hcell (fun h => h)) i _ (BV_get A i (by rw [← Hn.out]; exact hlt))
        obtain ⟨v8, hv8⟩ : ∃ v8, v8 = A[i]'(by rw [← Hn.out]; exact hlt) := ⟨_, rfl⟩
        have hv256 : v8 < 256 := by rw [hv8]; exact HLt.out _ (List.getElem_mem _)
        rw [← hv8] at c0
        clear hv8 hcell
        have hrl : sn ≤ i := by have := HL.out.rl; rw [← Hrn.out] at this; exact this
        have hi20 : i < 20 := by omega
        have hltI : (i : Int) < (n : Int) := by omega
        obtain ⟨q, hq⟩ : ∃ q, q = sn + 1 := ⟨_, rfl⟩
        have hqw : IntKind.i64.wrap ((sn : Int) + 1) = (q : Int) := by rw [IntKind.wrap_i64]; omega
        have hqI : (sn : Int) + 1 = (q : Int) := by omega
        have Hq := hide hq
        obtain ⟨j, hj⟩ : ∃ j, j = v8 % 4 := ⟨_, rfl⟩
        have hj2 : (v8 : Int) % 4 = (j : Int) := by omega
        have hj1 : (v8 : Int).tmod 4 = (j : Int) := by rw [Int.tmod_eq_emod_of_nonneg (by omega)]; exact hj2
        have hj3 : j ≤ 3 := by omega
        clear hq hj
        by_cases hik : i = kf
        · subst hik
          go_wp2_with fail
          refine (HL.out.flush (by omega)).mono ?_
          rintro e w6 ⟨rfl, ho6, L6, st6, lay6⟩
          have HM : Hid (LoopK w w6 b db i (.slice sa sn sc) sn R pre l L6 [] (c + 1) pre l (3 + 5 * i)) := hide ⟨st6, by have := HL.out.cb; omega, by simp, ho6, HL.out.rc, HL.out.rl, HL.out.new, Grows.refl _ _, lay6, by rw [← HL.out.rc, List.length_map]; exact Hrn.out⟩
          clear ho6 st6 lay6 HL c0
          go_wp2_with (first
            | (with_reducible refine wpList_run rfl (r_build37K rfl rfl rfl) ?_)
            | ((with_reducible refine aw_alloc (dst := some 16) Hi37.out Hz37.out ?_); intro w7 hb7 hk7 hz7; have Hz7 := hide hz7; clear hz7)
            | ((with_reducible refine aw_store (x := .tmp 16) (M := [.int .i64 3, .int .i64 1, .int .i64 q, .slice none 0 0]) Try.agg37 rfl rfl rfl (by simp [Value.oneCell']) hb7 (by simp [Value.cells]) ?_); intro w8 hb8 hk8 hz8; have Hz8 := hide hz8; clear hz8)
            | fail)
          have HB8 : Hid (Blk w8 w6.heap.size [.int .i64 3, .int .i64 1, .int .i64 q, .slice none 0 0] 37) := hide (by rw [put_whole _ _ (by simp [Value.cells])] at hb8; exact hb8)
          have HK8 : Hid (Kept (fun _ => False) w6 w8) := hide (hk7.trans hk8 (fun i hi h => by omega))
          have hw68 : w6.heap.size ≤ w8.heap.size := HK8.out.size
          obtain ⟨bx, hbx⟩ : ∃ bx, bx = w6.heap.size := ⟨_, rfl⟩
          rw [← hbx] at HB8 ⊢
          have Hbx := hide hbx
          clear hb7 hk7 hb8 hk8 hbx Hz7 Hz8 hqw hqI hj1 hj2 hw68
          go_loopw [84] (fun jj wi => ∃ (t : Nat) (y : Sl) (ws : List Wv), jj = .int .i64 t ∧ t ≤ j ∧ Hid (Blk wi bx [.int .i64 3, .int .i64 1, .int .i64 q, .slice y.a y.n y.c] 37 ∧ WsOwn wi (.slice y.a y.n y.c) ws ∧ ws.map Wv.wr = (List.range t).map (fun (b : Nat) => (⟨(b : Int), v8 :: List.replicate 63 0⟩ : Wr)) ∧ (∀ k, (Value.slice y.a y.n y.c).ownBlock = some k → w6.heap.size ≤ k) ∧ Kept (fun _ => False) w6 wi))
            (fun jj _ => j - (intOf jj).toNat)
          case atStart => exact ⟨0, ⟨none, 0, 0⟩, [], rfl, Nat.zero_le _, hide ⟨HB8.out, WsOwn.nil _, rfl, fun k h => by simp [Value.ownBlock] at h, HK8.out⟩⟩
          case round =>
            obtain ⟨t, ⟨ya, yn, yc⟩, ws, rfl, ht, HI⟩ := hrel
            simp only at HI
            by_cases htj : t < j
            · have htI : (t : Int) < (j : Int) := by omega
              have ht3 : (t : Int) ≤ 3 := by omega
              go_wp2_with (first
                | ((with_reducible refine aw_make (n := 64) 1 (by decide) Try.underlying22 Hi5.out Hz5.out rfl Hs5.out rfl rfl (by rw [Hb5.out]; decide) (by decide) ?_); intro w9 hw9 hk9 hz9; have HW9 := hide hw9; have HK9 := hide hk9; clear hw9 hk9 hz9)
                | (with_reducible refine stop_store 5 ?_)
                | fail)
              refine hide ?_
              refine aw_store1 (v := .int .u8 v8) Hi5.out Hs5.out rfl rfl rfl rfl HW9.out (by simp) ?_
              intro w10 hb10 hk10 hz10
              obtain ⟨g8, hg8⟩ : ∃ g8, g8 = wr.heap.size := ⟨_, rfl⟩
              have HO10 : Hid (Own w10 0 (.slice (some ⟨g8, 0, none⟩) 64 64) (v8 :: List.replicate 63 0)) := hide (own_bytes (by rw [hg8]; exact hb10) hv256)
              have hk10' : Kept (fun _ => False) wr w10 := HK9.out.trans hk10 (S := fun _ => False) (fun i hi h => by omega)
              have HK10 := hide hk10'
              have HI10 : Hid (Blk w10 bx [.int .i64 3, .int .i64 1, .int .i64 q, .slice ya yn yc] 37 ∧ WsOwn w10 (.slice ya yn yc) ws) := hide ⟨hk10'.blk HI.out.1 (fun h => h), HI.out.2.1.keptF hk10'⟩
              have c3 : w10.cell? ⟨bx, 3, none⟩ = some (.slice ya yn yc) := HI10.out.1.cell 3
              rw [← hg8]
              clear hb10 hk10 hz10 hk10' hg8 HW9 HK9
              try simp only [put_lit, put_none, List.set_cons_succ, List.set_cons_zero]
              go_wp2_with (first | (with_reducible refine stop_build 39 ?_) | fail)
              refine hide ?_
              refine wpList_run rfl (r_build39K (b := (t : Nat)) (so := some ⟨g8, 0, none⟩) (n := 64) (c := 64) rfl rfl) ?_
              refine wpList_run rfl (run_buildSlice_one (M := [.int .i64 (t : Nat), .slice (some ⟨g8, 0, none⟩) 64 64]) Try.underlying35 Hi39.out Hz39.out Hs39.out (by simp) (by simp) (.inl (eval_put_eq _ _ _ (by simp)))) ?_
              have hb11 := Blk.new w10 [.int .i64 (t : Nat), .slice (some ⟨g8, 0, none⟩) 64 64] 39
              have hk11 : Kept (fun _ => False) w10 (w10.alloc (.cells [.int .i64 (t : Nat), .slice (some ⟨g8, 0, none⟩) 64 64].toArray 39)) := Kept.alloc _ _ _
              have hz11 : (w10.alloc (.cells [.int .i64 (t : Nat), .slice (some ⟨g8, 0, none⟩) 64 64].toArray 39)).heap.size = w10.heap.size + 1 := by simp
              generalize w10.alloc (.cells [.int .i64 (t : Nat), .slice (some ⟨g8, 0, none⟩) 64 64].toArray 39) = w11 at hb11 hk11 hz11 ⊢
              have hwl : ws.length = t := by have := congrArg List.length HI.out.2.2.1; simpa using this
              obtain ⟨v', w12, hr12, ho12, hk12, hv12⟩ := (HI10.out.2.keptF hk11).snoc ⟨t, ⟨some ⟨g8, 0, none⟩, 64, 64⟩, v8 :: List.replicate 63 0⟩ (HO10.out.kept hk11 (fun _ _ h => h)) hb11 (by omega) 35
              obtain ⟨⟨za, zn, zc⟩, rfl⟩ := ho12.sl
              try simp only [Sl.v] at ho12 hr12 hv12
              have Hr12 := hide hr12
              have hnx : (Value.slice ya yn yc).ownBlock ≠ some bx := ownsRow_blk_ne HI10.out.2.1 HI10.out.1 (by decide)
              have HB12 := hide (hk12.blk (hk11.blk HI10.out.1 (fun h => h)) hnx)
              have HFIN : Hid (WsOwn w12 (.slice za zn zc) (ws ++ [⟨t, ⟨some ⟨g8, 0, none⟩, 64, 64⟩, v8 :: List.replicate 63 0⟩]) ∧ (ws ++ [(⟨t, ⟨some ⟨g8, 0, none⟩, 64, 64⟩, v8 :: List.replicate 63 0⟩ : Wv)]).map Wv.wr = (List.range (t + 1)).map (fun (b : Nat) => (⟨(b : Int), v8 :: List.replicate 63 0⟩ : Wr)) ∧ (∀ k, (Value.slice za zn zc).ownBlock = some k → w6.heap.size ≤ k) ∧ Kept (fun _ => False) w6 w12) := hide (by
                have z1 := HI.out.2.2.2.2.size
                have z2 := HK10.out.size
                refine ⟨ho12, by rw [List.map_append, HI.out.2.2.1, List.range_succ, List.map_append]; rfl, fun k hk => ?_, ((HI.out.2.2.2.2.trans HK10.out (fun _ _ h => h)).trans hk11 (fun _ _ h => h)).trans hk12 (fun k hk h => by have := HI.out.2.2.2.1 k h; omega)⟩
                rcases hv12 with h | h
                · exact HI.out.2.2.2.1 k (by rw [← h]; exact hk)
                · rw [h] at hk; cases hk; omega)
              clear hb11 hk11 hz11 hr12 ho12 hk12 hv12 hnx hwl HI HI10 HO10 HK10 c3
              try simp only [put_lit, put_none, List.set_cons_succ, List.set_cons_zero]
              go_wp2_with (first | (with_reducible refine stop_app2 35 35 ?_) | fail)
              refine hide ?_
              refine wpList_run rfl (r_app rfl rfl Hr12.out) ?_
              try simp only [put_lit, put_none, List.set_cons_succ, List.set_cons_zero]
              go_wp2_with (first | (with_reducible refine stop_store 35 ?_) | fail)
              refine hide ?_
              refine aw_store1 (v := .slice za zn zc) Hi35.out Hs35.out rfl rfl rfl rfl HB12.out (by simp) ?_
              intro w13 hb13 hk13 hz13
              have HB13 : Hid (Blk w13 bx [.int .i64 3, .int .i64 1, .int .i64 q, .slice za zn zc] 37) := hide hb13
              have HFN : Hid (WsOwn w13 (.slice za zn zc) (ws ++ [⟨t, ⟨some ⟨g8, 0, none⟩, 64, 64⟩, v8 :: List.replicate 63 0⟩]) ∧ Kept (fun _ => False) w6 w13) := hide ⟨HFIN.out.1.keptB HB12.out (by decide) (by decide) hk13, HFIN.out.2.2.2.trans hk13 (fun k hk h => by have := Hbx.out; omega)⟩
              clear hb13 hk13 hz13 HB12
              try simp only [put_lit, put_none, List.set_cons_succ, List.set_cons_zero]
              go_wp2
              go_roundw
              case rel => exact ⟨t + 1, ⟨za, zn, zc⟩, _, by simp, by omega, hide ⟨HB13.out, HFN.out.1, HFIN.out.2.1, HFIN.out.2.2.1, HFN.out.2⟩⟩
              case measure => simp [intOf]; omega
            · obtain rfl : t = j := by omega
              have hrc : (⟨3, 1, q, ⟨ya, yn, yc⟩, ws⟩ : Rv).rc = rcK q v8 t := by
                unfold Rv.rc rcK
                simp only
                rw [HI.out.2.2.1]
              have hwl : ws.length = t := by have := congrArg List.length HI.out.2.2.1; simpa using this
              have hstA : StK w wr b db pre l L6 [] (c + 1) := ⟨HM.out.st.rg.same HI.out.2.2.2.2, HM.out.st.dk, HM.out.st.so, HM.out.st.pl⟩
              have hro : RvOwn wr (.slice sa sn sc) R := HM.out.ro.kept HI.out.2.2.2.2 (fun _ h => h.elim)
              have hadd := hstA.add (by have := HM.out.cb; omega) (by have := HM.out.wb; omega) ⟨3, 1, q, ⟨ya, yn, yc⟩, ws⟩ (P := fun w' => RvOwn w' (.slice sa sn sc) R ∧ WsOwn w' (.slice ya yn yc) ws ∧ Blk w' bx [.int .i64 3, .int .i64 1, .int .i64 q, .slice ya yn yc] 37)
                (((rv_carr hro).and ((ws_carr HI.out.2.1).and (blk_carr HI.out.1 (.inr (.inl rfl))))).imp (fun _ h => h)) (fun w' h => h.2.1.at (by omega)) hrc (by have := Hq.out; omega) (by omega) hv256
              have HAdd := hide hadd
              have HBI := hide HI.out.1
              have HWI := hide HI.out.2.2.2
              clear hadd hstA hro HI
              go_wp2_with (first
                | (with_reducible refine aw_load (x := .tmp 16) (M := [.int .i64 3, .int .i64 1, .int .i64 q, .slice ya yn yc]) Try.agg37 rfl HBI.out (by simp) rfl ?_)
                | fail)
              refine HAdd.out.mono ?_
              rintro e wa ⟨pp, ec, rfl, ⟨ho, hws, hbx⟩, pre', l', W', c', hst', hc', hW', hgr', hout⟩
              have HN : Hid (StK w wa b db pre' l' L6 W' c' ∧ c' ≤ 2 + 5 * (i + 1) ∧ W'.length ≤ 8 * (i + 1) ∧ Grows pre l pre' l') := hide ⟨hst', by have := HM.out.cb; omega, by have := HM.out.wb; omega, hgr' _ _ HM.out.gr⟩
              have HRo := hide ho
              have HWs := hide hws
              have HBx := hide hbx
              clear ho hws hbx hst' hc' hW' hgr' HAdd
              rcases hout with ⟨rfl, hcom⟩ | ⟨rfl, hcom⟩
              · have HCom := hide hcom
                clear hcom
                go_wp2_with (first
                  | (with_reducible refine aw_load (x := .tmp 16) (M := [.int .i64 3, .int .i64 1, .int .i64 q, .slice ya yn yc]) Try.agg37 rfl HBx.out (by simp) rfl ?_)
                  | (with_reducible refine stop_bs 34 ?_)
                  | fail)
                refine hide ?_
                refine wpList_run rfl (run_buildSlice_one (M := [.int .i64 3, .int .i64 1, .int .i64 q, .slice ya yn yc]) Try.underlying34 Hi37.out Hz37.out Hs37.out (by simp) (by simp) (.inl rfl)) ?_
                have hbb := Blk.new wa [.int .i64 3, .int .i64 1, .int .i64 q, .slice ya yn yc] 37
                have hkb : Kept (fun _ => False) wa (wa.alloc (.cells [.int .i64 3, .int .i64 1, .int .i64 q, .slice ya yn yc].toArray 37)) := Kept.alloc _ _ _
                generalize wa.alloc (.cells [.int .i64 3, .int .i64 1, .int .i64 q, .slice ya yn yc].toArray 37) = wb at hbb hkb ⊢
                have hrlen : R.length ≤ 1000000 := by have := HM.out.rl; omega
                obtain ⟨v', wc, hrc2, hoc, hkc, hvc⟩ := (HRo.out.kept hkb (fun _ h => h.elim)).snoc ⟨3, 1, q, ⟨ya, yn, yc⟩, ws⟩ (HWs.out.keptF hkb) (by rw [hwl]; omega) hbb hrlen 34
                obtain ⟨za, zc, rfl⟩ : ∃ za zc, v' = .slice za (R ++ [(⟨3, 1, q, ⟨ya, yn, yc⟩, ws⟩ : Rv)]).length zc := by
                  obtain ⟨za, zc, e⟩ := ownsRow_slice hoc.1
                  exact ⟨za, zc, e⟩
                obtain ⟨zn, hzn⟩ : ∃ zn, zn = (R ++ [(⟨3, 1, q, ⟨ya, yn, yc⟩, ws⟩ : Rv)]).length := ⟨_, rfl⟩
                rw [← hzn] at hrc2 hoc hvc
                have Hrc2 := hide hrc2
                have HFIN : Hid (LoopK w wc b db (i + 1) (.slice za zn zc) sn (R ++ [(⟨3, 1, q, ⟨ya, yn, yc⟩, ws⟩ : Rv)]) pre' l' L6 W' c' pre l (2 + 5 * (i + 1))) := hide (by
                  have hrg : Rg w wc b 200 ⟨db, 0, 6, 9, 9 * pre'.length + itsN l'⟩ (devL L6 W' c') [] := (HN.out.1.rg.same hkb).keptS hkc (fun k hk => ⟨HM.out.new k hk, by
                    have ho2 := (HRo.out.kept hkb (fun _ h => h.elim)).1
                    rcases ownsRow_blk ho2 with ⟨e, _⟩ | ⟨g, cp, C, e, hb, _⟩
                    · rw [e] at hk; cases hk
                    · rw [e] at hk; cases hk; exact ⟨_, _, hb, .inr (.inl rfl)⟩⟩)
                  refine ⟨⟨hrg, HN.out.1.dk, HN.out.1.so, HN.out.1.pl⟩, HN.out.2.1, HN.out.2.2.1, hoc, ?_, ?_, ?_, HN.out.2.2.2, HM.out.sure1, HM.out.sure2⟩
                  · rw [List.map_append, HM.out.rc, HCom.out]
                    show _ ++ [(⟨3, 1, q, ⟨ya, yn, yc⟩, ws⟩ : Rv).rc] = _
                    rw [hrc]
                  · rw [List.length_append]
                    have := HM.out.rl
                    simp
                    omega
                  · intro k hk
                    rcases hvc with h | h
                    · exact HM.out.new k (by rw [← h]; exact hk)
                    · rw [h] at hk
                      cases hk
                      have := (HN.out.1.rg.same hkb).kept.size
                      exact this)
                clear hbb hkb hrc2 hoc hkc hvc hrc hwl HRo HWs HBx HN HCom HBI HWI
                try simp only [put_lit, put_none, List.set_cons_succ, List.set_cons_zero]
                go_wp2_with (first | (with_reducible refine stop_app2 34 34 ?_) | fail)
                refine hide ?_
                refine wpList_run rfl (r_app rfl rfl Hrc2.out) ?_
                try simp only [put_lit, put_none, List.set_cons_succ, List.set_cons_zero]
                go_wp2
                go_roundw
                case rel => exact ⟨i + 1, _, ⟨za, zn, zc⟩, _, _, _, _, _, _, _, _, by simp, rfl, rfl, by omega, hzn, HFIN⟩
                case measure => simp [intOf]; omega
              · have HFIN : Hid (LoopK w wa b db (i + 1) (.slice sa sn sc) sn R pre' l' L6 W' c' pre l (2 + 5 * (i + 1))) := hide ⟨HN.out.1, HN.out.2.1, HN.out.2.2.1, HRo.out, by rw [hcom]; exact HM.out.rc, by have := HM.out.rl; omega, HM.out.new, HN.out.2.2.2, HM.out.sure1, HM.out.sure2⟩
                clear HN HRo HWs HBx hcom hrc hwl HBI HWI
                go_wp2
                go_roundw
                case rel => exact ⟨i + 1, _, ⟨sa, sn, sc⟩, _, _, _, _, _, _, _, _, by simp, rfl, rfl, by omega, Hrn.out, HFIN⟩
                case measure => simp [intOf]; omega
        · have hikI : ¬ (i : Int) = (kf : Int) := by omega
          obtain ⟨w6, rfl⟩ : ∃ w6, w6 = wr := ⟨_, rfl⟩
          have HM : Hid (LoopK w w6 b db i (.slice sa sn sc) sure R pre l L W c pf lf (3 + 5 * i)) := hide ⟨HL.out.st, by have := HL.out.cb; omega, HL.out.wb, HL.out.ro, HL.out.rc, HL.out.rl, HL.out.new, HL.out.gr, HL.out.sure1, HL.out.sure2⟩
          clear HL
          go_wp2_with (first
            | (with_reducible refine wpList_run rfl (r_build37K rfl rfl rfl) ?_)
            | ((with_reducible refine aw_alloc (dst := some 16) Hi37.out Hz37.out ?_); intro w7 hb7 hk7 hz7; have Hz7 := hide hz7; clear hz7)
            | ((with_reducible refine aw_store (x := .tmp 16) (M := [.int .i64 3, .int .i64 1, .int .i64 q, .slice none 0 0]) Try.agg37 rfl rfl rfl (by simp [Value.oneCell']) hb7 (by simp [Value.cells]) ?_); intro w8 hb8 hk8 hz8; have Hz8 := hide hz8; clear hz8)
            | fail)
          have HB8 : Hid (Blk w8 w6.heap.size [.int .i64 3, .int .i64 1, .int .i64 q, .slice none 0 0] 37) := hide (by rw [put_whole _ _ (by simp [Value.cells])] at hb8; exact hb8)
          have HK8 : Hid (Kept (fun _ => False) w6 w8) := hide (hk7.trans hk8 (fun i hi h => by omega))
          have hw68 : w6.heap.size ≤ w8.heap.size := HK8.out.size
          obtain ⟨bx, hbx⟩ : ∃ bx, bx = w6.heap.size := ⟨_, rfl⟩
          rw [← hbx] at HB8 ⊢
          have Hbx := hide hbx
          clear hb7 hk7 hb8 hk8 hbx Hz7 Hz8 hqw hqI hj1 hj2 hw68
          go_loopw [84] (fun jj wi => ∃ (t : Nat) (y : Sl) (ws : List Wv), jj = .int .i64 t ∧ t ≤ j ∧ Hid (Blk wi bx [.int .i64 3, .int .i64 1, .int .i64 q, .slice y.a y.n y.c] 37 ∧ WsOwn wi (.slice y.a y.n y.c) ws ∧ ws.map Wv.wr = (List.range t).map (fun (b : Nat) => (⟨(b : Int), v8 :: List.replicate 63 0⟩ : Wr)) ∧ (∀ k, (Value.slice y.a y.n y.c).ownBlock = some k → w6.heap.size ≤ k) ∧ Kept (fun _ => False) w6 wi))
            (fun jj _ => j - (intOf jj).toNat)
          case atStart => exact ⟨0, ⟨none, 0, 0⟩, [], rfl, Nat.zero_le _, hide ⟨HB8.out, WsOwn.nil _, rfl, fun k h => by simp [Value.ownBlock] at h, HK8.out⟩⟩
          case round =>
            obtain ⟨t, ⟨ya, yn, yc⟩, ws, rfl, ht, HI⟩ := hrel
            simp only at HI
            by_cases htj : t < j
            · have htI : (t : Int) < (j : Int) := by omega
              have ht3 : (t : Int) ≤ 3 := by omega
              go_wp2_with (first
                | ((with_reducible refine aw_make (n := 64) 1 (by decide) Try.underlying22 Hi5.out Hz5.out rfl Hs5.out rfl rfl (by rw [Hb5.out]; decide) (by decide) ?_); intro w9 hw9 hk9 hz9; have HW9 := hide hw9; have HK9 := hide hk9; clear hw9 hk9 hz9)
                | (with_reducible refine stop_store 5 ?_)
                | fail)
              refine hide ?_
              refine aw_store1 (v := .int .u8 v8) Hi5.out Hs5.out rfl rfl rfl rfl HW9.out (by simp) ?_
              intro w10 hb10 hk10 hz10
              obtain ⟨g8, hg8⟩ : ∃ g8, g8 = wr.heap.size := ⟨_, rfl⟩
              have HO10 : Hid (Own w10 0 (.slice (some ⟨g8, 0, none⟩) 64 64) (v8 :: List.replicate 63 0)) := hide (own_bytes (by rw [hg8]; exact hb10) hv256)
              have hk10' : Kept (fun _ => False) wr w10 := HK9.out.trans hk10 (S := fun _ => False) (fun i hi h => by omega)
              have HK10 := hide hk10'
              have HI10 : Hid (Blk w10 bx [.int .i64 3, .int .i64 1, .int .i64 q, .slice ya yn yc] 37 ∧ WsOwn w10 (.slice ya yn yc) ws) := hide ⟨hk10'.blk HI.out.1 (fun h => h), HI.out.2.1.keptF hk10'⟩
              have c3 : w10.cell? ⟨bx, 3, none⟩ = some (.slice ya yn yc) := HI10.out.1.cell 3
              rw [← hg8]
              clear hb10 hk10 hz10 hk10' hg8 HW9 HK9
              try simp only [put_lit, put_none, List.set_cons_succ, List.set_cons_zero]
              go_wp2_with (first | (with_reducible refine stop_build 39 ?_) | fail)
              refine hide ?_
              refine wpList_run rfl (r_build39K (b := (t : Nat)) (so := some ⟨g8, 0, none⟩) (n := 64) (c := 64) rfl rfl) ?_
              refine wpList_run rfl (run_buildSlice_one (M := [.int .i64 (t : Nat), .slice (some ⟨g8, 0, none⟩) 64 64]) Try.underlying35 Hi39.out Hz39.out Hs39.out (by simp) (by simp) (.inl (eval_put_eq _ _ _ (by simp)))) ?_
              have hb11 := Blk.new w10 [.int .i64 (t : Nat), .slice (some ⟨g8, 0, none⟩) 64 64] 39
              have hk11 : Kept (fun _ => False) w10 (w10.alloc (.cells [.int .i64 (t : Nat), .slice (some ⟨g8, 0, none⟩) 64 64].toArray 39)) := Kept.alloc _ _ _
              have hz11 : (w10.alloc (.cells [.int .i64 (t : Nat), .slice (some ⟨g8, 0, none⟩) 64 64].toArray 39)).heap.size = w10.heap.size + 1 := by simp
              generalize w10.alloc (.cells [.int .i64 (t : Nat), .slice (some ⟨g8, 0, none⟩) 64 64].toArray 39) = w11 at hb11 hk11 hz11 ⊢
              have hwl : ws.length = t := by have := congrArg List.length HI.out.2.2.1; simpa using this
              obtain ⟨v', w12, hr12, ho12, hk12, hv12⟩ := (HI10.out.2.keptF hk11).snoc ⟨t, ⟨some ⟨g8, 0, none⟩, 64, 64⟩, v8 :: List.replicate 63 0⟩ (HO10.out.kept hk11 (fun _ _ h => h)) hb11 (by omega) 35
              obtain ⟨⟨za, zn, zc⟩, rfl⟩ := ho12.sl
              try simp only [Sl.v] at ho12 hr12 hv12
              have Hr12 := hide hr12
              have hnx : (Value.slice ya yn yc).ownBlock ≠ some bx := ownsRow_blk_ne HI10.out.2.1 HI10.out.1 (by decide)
              have HB12 := hide (hk12.blk (hk11.blk HI10.out.1 (fun h => h)) hnx)
              have HFIN : Hid (WsOwn w12 (.slice za zn zc) (ws ++ [⟨t, ⟨some ⟨g8, 0, none⟩, 64, 64⟩, v8 :: List.replicate 63 0⟩]) ∧ (ws ++ [(⟨t, ⟨some ⟨g8, 0, none⟩, 64, 64⟩, v8 :: List.replicate 63 0⟩ : Wv)]).map Wv.wr = (List.range (t + 1)).map (fun (b : Nat) => (⟨(b : Int), v8 :: List.replicate 63 0⟩ : Wr)) ∧ (∀ k, (Value.slice za zn zc).ownBlock = some k → w6.heap.size ≤ k) ∧ Kept (fun _ => False) w6 w12) := hide (by
                have z1 := HI.out.2.2.2.2.size
                have z2 := HK10.out.size
                refine ⟨ho12, by rw [List.map_append, HI.out.2.2.1, List.range_succ, List.map_append]; rfl, fun k hk => ?_, ((HI.out.2.2.2.2.trans HK10.out (fun _ _ h => h)).trans hk11 (fun _ _ h => h)).trans hk12 (fun k hk h => by have := HI.out.2.2.2.1 k h; omega)⟩
                rcases hv12 with h | h
                · exact HI.out.2.2.2.1 k (by rw [← h]; exact hk)
                · rw [h] at hk; cases hk; omega)
              clear hb11 hk11 hz11 hr12 ho12 hk12 hv12 hnx hwl HI HI10 HO10 HK10 c3
              try simp only [put_lit, put_none, List.set_cons_succ, List.set_cons_zero]
              go_wp2_with (first | (with_reducible refine stop_app2 35 35 ?_) | fail)
              refine hide ?_
              refine wpList_run rfl (r_app rfl rfl Hr12.out) ?_
              try simp only [put_lit, put_none, List.set_cons_succ, List.set_cons_zero]
              go_wp2_with (first | (with_reducible refine stop_store 35 ?_) | fail)
              refine hide ?_
              refine aw_store1 (v := .slice za zn zc) Hi35.out Hs35.out rfl rfl rfl rfl HB12.out (by simp) ?_
              intro w13 hb13 hk13 hz13
              have HB13 : Hid (Blk w13 bx [.int .i64 3, .int .i64 1, .int .i64 q, .slice za zn zc] 37) := hide hb13
              have HFN : Hid (WsOwn w13 (.slice za zn zc) (ws ++ [⟨t, ⟨some ⟨g8, 0, none⟩, 64, 64⟩, v8 :: List.replicate 63 0⟩]) ∧ Kept (fun _ => False) w6 w13) := hide ⟨HFIN.out.1.keptB HB12.out (by decide) (by decide) hk13, HFIN.out.2.2.2.trans hk13 (fun k hk h => by have := Hbx.out; omega)⟩
              clear hb13 hk13 hz13 HB12
              try simp only [put_lit, put_none, List.set_cons_succ, List.set_cons_zero]
              go_wp2
              go_roundw
              case rel => exact ⟨t + 1, ⟨za, zn, zc⟩, _, by simp, by omega, hide ⟨HB13.out, HFN.out.1, HFIN.out.2.1, HFIN.out.2.2.1, HFN.out.2⟩⟩
              case measure => simp [intOf]; omega
            · obtain rfl : t = j := by omega
              have hrc : (⟨3, 1, q, ⟨ya, yn, yc⟩, ws⟩ : Rv).rc = rcK q v8 t := by
                unfold Rv.rc rcK
                simp only
                rw [HI.out.2.2.1]
              have hwl : ws.length = t := by have := congrArg List.length HI.out.2.2.1; simpa using this
              have hstA : StK w wr b db pre l L W c := ⟨HM.out.st.rg.same HI.out.2.2.2.2, HM.out.st.dk, HM.out.st.so, HM.out.st.pl⟩
              have hro : RvOwn wr (.slice sa sn sc) R := HM.out.ro.kept HI.out.2.2.2.2 (fun _ h => h.elim)
              have hadd := hstA.add (by have := HM.out.cb; omega) (by have := HM.out.wb; omega) ⟨3, 1, q, ⟨ya, yn, yc⟩, ws⟩ (P := fun w' => RvOwn w' (.slice sa sn sc) R ∧ WsOwn w' (.slice ya yn yc) ws ∧ Blk w' bx [.int .i64 3, .int .i64 1, .int .i64 q, .slice ya yn yc] 37)
                (((rv_carr hro).and ((ws_carr HI.out.2.1).and (blk_carr HI.out.1 (.inr (.inl rfl))))).imp (fun _ h => h)) (fun w' h => h.2.1.at (by omega)) hrc (by have := Hq.out; omega) (by omega) hv256
              have HAdd := hide hadd
              have HBI := hide HI.out.1
              have HWI := hide HI.out.2.2.2
              clear hadd hstA hro HI
              go_wp2_with (first
                | (with_reducible refine aw_load (x := .tmp 16) (M := [.int .i64 3, .int .i64 1, .int .i64 q, .slice ya yn yc]) Try.agg37 rfl HBI.out (by simp) rfl ?_)
                | fail)
              refine HAdd.out.mono ?_
              rintro e wa ⟨pp, ec, rfl, ⟨ho, hws, hbx⟩, pre', l', W', c', hst', hc', hW', hgr', hout⟩
              have HN : Hid (StK w wa b db pre' l' L W' c' ∧ c' ≤ 2 + 5 * (i + 1) ∧ W'.length ≤ 8 * (i + 1) ∧ Grows pf lf pre' l') := hide ⟨hst', by have := HM.out.cb; omega, by have := HM.out.wb; omega, hgr' _ _ HM.out.gr⟩
              have HRo := hide ho
              have HWs := hide hws
              have HBx := hide hbx
              clear ho hws hbx hst' hc' hW' hgr' HAdd
              rcases hout with ⟨rfl, hcom⟩ | ⟨rfl, hcom⟩
              · have HCom := hide hcom
                clear hcom
                go_wp2_with (first
                  | (with_reducible refine aw_load (x := .tmp 16) (M := [.int .i64 3, .int .i64 1, .int .i64 q, .slice ya yn yc]) Try.agg37 rfl HBx.out (by simp) rfl ?_)
                  | (with_reducible refine stop_bs 34 ?_)
                  | fail)
                refine hide ?_
                refine wpList_run rfl (run_buildSlice_one (M := [.int .i64 3, .int .i64 1, .int .i64 q, .slice ya yn yc]) Try.underlying34 Hi37.out Hz37.out Hs37.out (by simp) (by simp) (.inl rfl)) ?_
                have hbb := Blk.new wa [.int .i64 3, .int .i64 1, .int .i64 q, .slice ya yn yc] 37
                have hkb : Kept (fun _ => False) wa (wa.alloc (.cells [.int .i64 3, .int .i64 1, .int .i64 q, .slice ya yn yc].toArray 37)) := Kept.alloc _ _ _
                generalize wa.alloc (.cells [.int .i64 3, .int .i64 1, .int .i64 q, .slice ya yn yc].toArray 37) = wb at hbb hkb ⊢
                have hrlen : R.length ≤ 1000000 := by have := HM.out.rl; omega
                obtain ⟨v', wc, hrc2, hoc, hkc, hvc⟩ := (HRo.out.kept hkb (fun _ h => h.elim)).snoc ⟨3, 1, q, ⟨ya, yn, yc⟩, ws⟩ (HWs.out.keptF hkb) (by rw [hwl]; omega) hbb hrlen 34
                obtain ⟨za, zc, rfl⟩ : ∃ za zc, v' = .slice za (R ++ [(⟨3, 1, q, ⟨ya, yn, yc⟩, ws⟩ : Rv)]).length zc := by
                  obtain ⟨za, zc, e⟩ := ownsRow_slice hoc.1
                  exact ⟨za, zc, e⟩
                obtain ⟨zn, hzn⟩ : ∃ zn, zn = (R ++ [(⟨3, 1, q, ⟨ya, yn, yc⟩, ws⟩ : Rv)]).length := ⟨_, rfl⟩
                rw [← hzn] at hrc2 hoc hvc
                have Hrc2 := hide hrc2
                have HFIN : Hid (LoopK w wc b db (i + 1) (.slice za zn zc) sure (R ++ [(⟨3, 1, q, ⟨ya, yn, yc⟩, ws⟩ : Rv)]) pre' l' L W' c' pf lf (2 + 5 * (i + 1))) := hide (by
                  have hrg : Rg w wc b 200 ⟨db, 0, 6, 9, 9 * pre'.length + itsN l'⟩ (devL L W' c') [] := (HN.out.1.rg.same hkb).keptS hkc (fun k hk => ⟨HM.out.new k hk, by
                    have ho2 := (HRo.out.kept hkb (fun _ h => h.elim)).1
                    rcases ownsRow_blk ho2 with ⟨e, _⟩ | ⟨g, cp, C, e, hb, _⟩
                    · rw [e] at hk; cases hk
                    · rw [e] at hk; cases hk; exact ⟨_, _, hb, .inr (.inl rfl)⟩⟩)
                  refine ⟨⟨hrg, HN.out.1.dk, HN.out.1.so, HN.out.1.pl⟩, HN.out.2.1, HN.out.2.2.1, hoc, ?_, ?_, ?_, HN.out.2.2.2, HM.out.sure1, HM.out.sure2⟩
                  · rw [List.map_append, HM.out.rc, HCom.out]
                    show _ ++ [(⟨3, 1, q, ⟨ya, yn, yc⟩, ws⟩ : Rv).rc] = _
                    rw [hrc]
                  · rw [List.length_append]
                    have := HM.out.rl
                    simp
                    omega
                  · intro k hk
                    rcases hvc with h | h
                    · exact HM.out.new k (by rw [← h]; exact hk)
                    · rw [h] at hk
                      cases hk
                      have := (HN.out.1.rg.same hkb).kept.size
                      exact this)
                clear hbb hkb hrc2 hoc hkc hvc hrc hwl HRo HWs HBx HN HCom HBI HWI
                try simp only [put_lit, put_none, List.set_cons_succ, List.set_cons_zero]
                go_wp2_with (first | (with_reducible refine stop_app2 34 34 ?_) | fail)
                refine hide ?_
                refine wpList_run rfl (r_app rfl rfl Hrc2.out) ?_
                try simp only [put_lit, put_none, List.set_cons_succ, List.set_cons_zero]
                go_wp2
                go_roundw
                case rel => exact ⟨i + 1, _, ⟨za, zn, zc⟩, _, _, _, _, _, _, _, _, by simp, rfl, rfl, by omega, hzn, HFIN⟩
                case measure => simp [intOf]; omega
              · have HFIN : Hid (LoopK w wa b db (i + 1) (.slice sa sn sc) sure R pre' l' L W' c' pf lf (2 + 5 * (i + 1))) := hide ⟨HN.out.1, HN.out.2.1, HN.out.2.2.1, HRo.out, by rw [hcom]; exact HM.out.rc, by have := HM.out.rl; omega, HM.out.new, HN.out.2.2.2, HM.out.sure1, HM.out.sure2⟩
                clear HN HRo HWs HBx hcom hrc hwl HBI HWI
                go_wp2
                go_roundw
                case rel => exact ⟨i + 1, _, ⟨sa, sn, sc⟩, _, _, _, _, _, _, _, _, by simp, rfl, rfl, by omega, Hrn.out, HFIN⟩
                case measure => simp [intOf]; omega
      · obtain rfl : i = n := by omega
        have hnI : ¬ (i : Int) < (i : Int) := by omega
        by_cases hkn2 : kf = i
        · subst hkn2
          go_wp2_with fail
          refine (HL.out.flush (by omega)).mono ?_
          rintro e w6 ⟨rfl, ho6, L6, st6, lay6⟩
          have HM : Hid (LoopK w w6 b db kf (.slice sa sn sc) sn R pre l L6 [] (c + 1) pre l (3 + 5 * kf)) := hide ⟨st6, by have := HL.out.cb; omega, by simp, ho6, HL.out.rc, HL.out.rl, HL.out.new, Grows.refl _ _, lay6, by rw [← HL.out.rc, List.length_map]; exact Hrn.out⟩
          clear ho6 st6 lay6 HL
          go_wp2_with fail
          refine (crash_found HM.out.st kv ks HKp.out (rv_carr HM.out.ro) HM.out.gr HM.out.sure1 HM.out.sure2).mono ?_
          rintro e w7 ⟨rfl, hc7, L7, en7, C1, C2, hr7, hf7⟩
          have HC7 := hide hc7
          have HR7 := hide hr7
          have HF7 := hide hf7
          clear hc7 hr7 hf7
          go_wp2_with fail
          refine (commits1 HR7.out HF7.out HC7.out).mono ?_
          rintro e w8 ⟨⟨fa, fnn, fc⟩, R1, rfl, hfn, hc8, ho8, hm8, hr8⟩
          simp only at hfn ho8 ⊢
          have HFn := hide hfn
          have HO8 := hide ho8
          have HD8 := hide hc8.at
          have HM8 := hide hm8
          have HR8 := hide hr8
          obtain ⟨tt, htt⟩ := HF7.out.pre
          obtain ⟨hle, hsame⟩ := found_same hm8 (HM.out.rc.trans htt)
          have HSm := hide hsame
          have hf1 : sn ≤ fnn := by
            have h1 := HF7.out.sure
            rw [← hm8, List.length_map, ← hfn] at h1
            exact h1
          have hf2 : fnn ≤ sn := by rw [hfn, Hrn.out]; exact hle
          have Hf20 : Hid (fnn ≤ 20) := hide (by have := HM.out.rl; rw [← Hrn.out] at this; omega)
          have Hcb : Hid ((c + 1) ≤ 1000) := hide (by have := HM.out.cb; omega)
          have Hf2 := hide hf2
          have h33a : ¬ (fnn : Int) < (sn : Int) := by omega
          have h33b : ¬ (sn : Int) < (fnn : Int) := by omega
          clear hfn hc8 ho8 hm8 hr8 htt hle hsame hf1 hf2 HC7 HR7
          go_wp2
          clear h33a h33b
          go_loopw [151] (fun jv wl => ∃ j : Nat, jv = .int .i64 j ∧ j ≤ fnn ∧ Hid (Kept (fun _ => False) w8 wl)) (fun jv _ => fnn - (intOf jv).toNat)
          case atStart => exact ⟨0, rfl, Nat.zero_le _, hide (Kept.refl _ _)⟩
          case round =>
            obtain ⟨j, rfl, hj, HKL⟩ := hrel
            by_cases hjl : j < fnn
            · have hjI : (j : Int) < (fnn : Int) := by omega
              have hj20 : j < 20 := by have := Hf20.out; omega
              have hjR1 : j < R1.length := by rw [← HFn.out]; exact hjl
              have hjR : j < R.length := by rw [← Hrn.out]; have := Hf2.out; omega
              obtain ⟨g1, G1, rfl, _, hb1, hl1, hm1, ha1⟩ := rv_at HO8.out hjR1
              obtain ⟨g2, G2, rfl, _, hb2, hl2, hm2, ha2⟩ := rv_at HD8.out hjR
              obtain ⟨y1, hy1⟩ : ∃ y1, y1 = R1[j] := ⟨_, rfl⟩
              obtain ⟨y2, hy2⟩ : ∃ y2, y2 = R[j] := ⟨_, rfl⟩
              have hs := HSm.out j hjR1 hjR
              rw [← hy1, ← hy2] at hs
              rw [← hy1] at hm1 ha1
              rw [← hy2] at hm2 ha2
              have H1 := hide (And.intro hb1 (And.intro hl1 (And.intro hm1 ha1)))
              have H2 := hide (And.intro hb2 (And.intro hl2 (And.intro hm2 ha2)))
              have HS := hide hs
              have Hjs : Hid (j < sn) := hide (by have := Hf2.out; omega)
              clear hb1 hl1 hm1 ha1 hb2 hl2 hm2 ha2 hs hy1 hy2 hjR1 hjR
              go_wp2_with fail
              refine region_tail 8 Try.mixed (by kernel_rfl) ?_
              intro w9 hk9 hz9
              have hk89 := HKL.out.trans hk9 (fun _ _ h => h)
              have HK89 := hide hk89
              simp only [List.take_succ_cons, List.take_zero, List.drop_succ_cons, List.drop_zero]
              still_step
              still_step
              refine wpStill_run rfl (r_idx34 j rfl rfl hjl) ?_
              refine wpStill_run rfl (r_ldRv y1 rfl (hk89.blk H1.out.1 (fun h => h)) H1.out.2.1 H1.out.2.2.1) ?_
              still_step
              still_step
              refine wpStill_run rfl (r_idx34 j rfl rfl Hjs.out) ?_
              refine wpStill_run rfl (r_ldRv y2 rfl (hk89.blk H2.out.1 (fun h => h)) H2.out.2.1 H2.out.2.2.1) ?_
              refine wpStill_nil ?_
              clear hk9 hz9 hk89
              simp only [put_lit, put_none, List.set_cons_succ, List.set_cons_zero]
              go_wp2_with fail
              refine (refsame_at w9 y1 y2 (H1.out.2.2.2.kept HK89.out) (H2.out.2.2.2.kept HK89.out) true HS.out).mono ?_
              rintro e w10 ⟨rfl, hk10⟩
              have HK10 := hide (HK89.out.trans hk10 (fun _ _ h => h))
              clear hk10 HK89
              go_wp2
              go_roundw
              case rel => exact ⟨j + 1, by simp, by omega, HK10⟩
              case measure => simp [intOf]; omega
            · obtain rfl : j = fnn := by omega
              have HRL := hide (HR8.out.same HKL.out)
              obtain ⟨q, hq⟩ : ∃ q, q = j + 1 := ⟨_, rfl⟩
              have hqw : IntKind.i64.wrap ((j : Int) + 1) = (q : Int) := by rw [IntKind.wrap_i64]; have := Hf20.out; omega
              have hqI : (j : Int) + 1 = (q : Int) := by omega
              have hj20 : j ≤ 20 := Hf20.out
              have Hq : Hid (1 ≤ q ∧ q ≤ 1000) := hide (by have := Hf20.out; omega)
              clear hq
              go_wp2_with (first
                | (with_reducible refine wpList_run rfl (r_build37K rfl rfl rfl) ?_)
                | ((with_reducible refine aw_alloc (dst := some 24) Hi37.out Hz37.out ?_); intro w11 hb11 hk11 hz11; have Hz11 := hide hz11; clear hz11)
                | ((with_reducible refine aw_store (x := .tmp 24) (M := [.int .i64 3, .int .i64 1, .int .i64 q, .slice none 0 0]) Try.agg37 rfl rfl rfl (by simp [Value.oneCell']) hb11 (by simp [Value.cells]) ?_); intro w12 hb12 hk12 hz12; have Hz12 := hide hz12; clear hz12)
                | fail)
              have HX12 : Hid (At37 wr.heap.size q w12) := hide (by rw [put_whole _ _ (by simp [Value.cells])] at hb12; exact hb12)
              have HR12 := hide (HRL.out.same (hk11.trans hk12 (fun i hi h => by omega)))
              obtain ⟨bx, hbx⟩ : ∃ bx, bx = wr.heap.size := ⟨_, rfl⟩
              rw [← hbx] at HX12 ⊢
              clear hj20 hb11 hk11 hb12 hk12 hbx hqw hqI Hz11 Hz12 HRL
              obtain ⟨en, hen⟩ : ∃ en, en = 9 * C1.length + itsN C2 := ⟨_, rfl⟩
              have Hen := hide hen
              have hc1 := HF7.out.fnd.cl
              rcases HF7.out.fnd.c2 with rfl | hs2
              · obtain ⟨a1, ha1⟩ : ∃ a1, a1 = C1.length := ⟨_, rfl⟩
                have hen0 : en = 9 * a1 := by rw [hen, ha1]; rfl
                have HenB : Hid (en ≤ 4611686018427387904) := hide (by omega)
                have Hmq : Hid (en % 9 = 0) := hide (by omega)
                have Hqa : Hid (en / 9 = a1) := hide (by omega)
                have HStart : Hid (∀ w0, Rg w w0 b 200 ⟨db, 0, 6, 9, 9 * C1.length + itsN []⟩ (devL L7 [] (c + 1)) [] → At37 bx q w0 → Calls Try.prog 7 #[.pointer (some ⟨b, 0, none⟩), .int .i64 (a1 : Nat), .int .i64 2, .int .i64 1, .int .i64 (q : Nat)] w0 fun e w' => e = .returned (.int .i64 0) ∧ At37 bx q w' ∧ Rg w w' b 200 ⟨db, 0, 6, 9, 9 * C1.length + itsN [hdI 2 1 q]⟩ (devL L7 (putW (9 * C1.length) (itS ((9 * C1.length : Nat) : Int) (hdI 2 1 q))) ((c + 1) + 1)) []) := hide (fun w0 h1 h2 => by
                  rw [ha1]
                  exact fnd_start HF7.out.fnd h1 Hcb.out Hq.out h2.carr)
                clear hen hen0 ha1 hc1
                go_wp2_with fail
                refine hold_frame (p := fun fr => Code.wp Try.prog _ _ fr _) ?_
                intro fr hfr
                have e9 : fr.eval (.tmp 9) = .pointer (some ⟨b, 0, none⟩) := by rw [hfr.out]; rfl
                have e24 : fr.eval (.tmp 24) = .pointer (some ⟨bx, 0, none⟩) := by rw [hfr.out]; rfl
                have hts : fr.tmps.size = 226 := by rw [hfr.out]; rfl
                refine region_S 99 (At37 bx q) Try.mixed ?_
                intro w0 hkw hheap
                have hr0 := HR12.out.same hkw
                have hS0 := HX12.out.kept hkw
                refine tkS 0 169 (v := .pointer (some ⟨b, 0, none⟩)) hS0 rfl rfl (by kernel_rfl) (by kernel_rfl) (by kernel_rfl) (by kernel_rfl) (wanted_none rfl) (fun _ _ _ h => h) (fun U hU => r_move (by simp [eval_put_ne, eval_put_eq, size_put, hts, e9])) ?_
                refine oneCS 1 170 (by kernel_rfl) rfl rfl (wanted_none rfl) (r_call1 Try.func13 (by kernel_rfl) rfl rfl (by simp [eval_put_ne, eval_put_eq, size_put, hts])) (rgend_at w0 b _ hr0.log) ?_
                rintro e v1 ⟨rfl, rfl⟩
                rw [← Hen.out]
                refine ⟨_, rfl, hS0, ?_⟩
                refine tkS 2 171 (v := .int .i64 (0 : Nat)) hS0 rfl rfl (by kernel_rfl) (by kernel_rfl) (by kernel_rfl) (by kernel_rfl) (wanted_none rfl) (fun _ _ _ h => h) (fun U hU => r_rgrem (i := en) (j := 9) (q := 0) (by simp [eval_put_ne, eval_put_eq, size_put, hts]) rfl (by decide) HenB.out Hmq.out) ?_
                refine tkS 3 172 (v := .bool true) hS0 rfl rfl (by kernel_rfl) (by kernel_rfl) (by kernel_rfl) (by kernel_rfl) (wanted_none rfl) (fun _ _ _ h => h) (fun U hU => r_rgeql (i := ((0 : Nat) : Int)) (j := 0) (by simp [eval_put_ne, eval_put_eq, size_put, hts]) rfl rfl) ?_
                refine tkS 4 173 (v := .bool true) hS0 rfl rfl (by kernel_rfl) (by kernel_rfl) (by kernel_rfl) (by kernel_rfl) (wanted_none rfl) (fun _ _ _ h => h) (fun U hU => r_move (by simp [eval_put_ne, eval_put_eq, size_put, hts])) ?_
                refine tkS 5 174 (v := .pointer (some ⟨b, 0, none⟩)) hS0 rfl rfl (by kernel_rfl) (by kernel_rfl) (by kernel_rfl) (by kernel_rfl) (wanted_some (j := 4) (d := 173) (bb := true) rfl rfl rfl (by simp [eval_put_ne, eval_put_eq, size_put, hts]) (by simp [size_put, hts])) (fun _ _ _ h => h) (fun U hU => r_move (by simp [eval_put_ne, eval_put_eq, size_put, hts, e9])) ?_
                refine tkS 6 175 (v := .pointer (some ⟨b, 0, none⟩)) hS0 rfl rfl (by kernel_rfl) (by kernel_rfl) (by kernel_rfl) (by kernel_rfl) (wanted_some (j := 4) (d := 173) (bb := true) rfl rfl rfl (by simp [eval_put_ne, eval_put_eq, size_put, hts]) (by simp [size_put, hts])) (fun _ _ _ h => h) (fun U hU => r_move (by simp [eval_put_ne, eval_put_eq, size_put, hts, e9])) ?_
                refine tkS 9 178 (v := .pointer (some ⟨bx, 2, none⟩)) hS0 rfl rfl (by kernel_rfl) (by kernel_rfl) (by kernel_rfl) (by kernel_rfl) (wanted_some (j := 4) (d := 173) (bb := true) rfl rfl rfl (by simp [eval_put_ne, eval_put_eq, size_put, hts]) (by simp [size_put, hts])) (fun _ _ _ h => h) (fun U hU => r_f37_2 (b := bx) (by simp [eval_put_ne, eval_put_eq, size_put, hts, e24])) ?_
                refine tkS 10 179 (v := .int .i64 (q : Nat)) hS0 rfl rfl (by kernel_rfl) (by kernel_rfl) (by kernel_rfl) (by kernel_rfl) (wanted_some (j := 4) (d := 173) (bb := true) rfl rfl rfl (by simp [eval_put_ne, eval_put_eq, size_put, hts]) (by simp [size_put, hts])) (fun _ _ _ h => h) (fun U hU => r_ld3 (b := bx) (o := 2) (by simp [eval_put_ne, eval_put_eq, size_put, hts]) (Blk.cell hU 2)) ?_
                refine oneCS 7 176 (by kernel_rfl) rfl rfl (wanted_some (j := 4) (d := 173) (bb := true) rfl rfl rfl (by simp [eval_put_ne, eval_put_eq, size_put, hts]) (by simp [size_put, hts])) (r_call1 Try.func13 (by kernel_rfl) rfl rfl (by simp [eval_put_ne, eval_put_eq, size_put, hts])) (rgend_at w0 b _ hr0.log) ?_
                rintro e v2 ⟨rfl, rfl⟩
                rw [← Hen.out]
                refine ⟨_, rfl, hS0, ?_⟩
                refine tkS 8 177 (v := .int .i64 (a1 : Nat)) hS0 rfl rfl (by kernel_rfl) (by kernel_rfl) (by kernel_rfl) (by kernel_rfl) (wanted_some (j := 4) (d := 173) (bb := true) rfl rfl rfl (by simp [eval_put_ne, eval_put_eq, size_put, hts]) (by simp [size_put, hts])) (fun _ _ _ h => h) (fun U hU => r_rgquo (i := en) (j := 9) (q := a1) (by simp [eval_put_ne, eval_put_eq, size_put, hts]) rfl (by decide) HenB.out Hqa.out) ?_
                refine oneCS 11 180 (by kernel_rfl) rfl rfl (wanted_some (j := 4) (d := 173) (bb := true) rfl rfl rfl (by simp [eval_put_ne, eval_put_eq, size_put, hts]) (by simp [size_put, hts])) (r_call5 Try.func7 (by kernel_rfl) rfl rfl (by simp [eval_put_ne, eval_put_eq, size_put, hts]) (by simp [eval_put_ne, eval_put_eq, size_put, hts]) rfl rfl (by simp [eval_put_ne, eval_put_eq, size_put, hts])) (HStart.out w0 hr0 (HX12.out.kept hkw)) ?_
                rintro e v3 ⟨rfl, hx13, hr13⟩
                refine ⟨_, rfl, hx13, ?_⟩
                refine tkS 12 181 (v := .bool false) hx13 rfl rfl (by kernel_rfl) (by kernel_rfl) (by kernel_rfl) (by kernel_rfl) (wanted_some (j := 4) (d := 173) (bb := true) rfl rfl rfl (by simp [eval_put_ne, eval_put_eq, size_put, hts]) (by simp [size_put, hts])) (fun _ _ _ h => h) (fun U hU => r_neqE (i := 0) (j := 0) (by simp [eval_put_ne, eval_put_eq, size_put, hts]) rfl rfl) ?_
                refine tkS 13 182 (v := .bool false) hx13 rfl rfl (by kernel_rfl) (by kernel_rfl) (by kernel_rfl) (by kernel_rfl) (wanted_none rfl) (fun _ _ _ h => h) (fun U hU => r_pick (by simp [eval_put_ne, eval_put_eq, size_put, hts]) (by simp [eval_put_ne, eval_put_eq, size_put, hts])) ?_
                refine doneS (by kernel_rfl) ?_
                rw [hfr.out]
                clear hfr e9 e24 hts
                simp only [put_lit, put_none, List.set_cons_succ, List.set_cons_zero]
                have HR13 := hide hr13
                have HX13 := hide hx13
                have HAdd := hide (fnd_addA HF7.out.fnd Hq.out Hcb.out hr13 hx13.carr)
                clear hr13 hx13 hr0 hS0 hkw hheap HStart
                have HB13 : Hid (Blk _ bx [.int .i64 3, .int .i64 1, .int .i64 (q : Nat), .slice none 0 0] 37) := hide HX13.out
                go_wp2_with (first
                  | (with_reducible refine aw_load (x := .tmp 24) (M := [.int .i64 3, .int .i64 1, .int .i64 (q : Nat), .slice none 0 0]) Try.agg37 rfl HB13.out (by simp) rfl ?_)
                  | fail)
                refine HAdd.out.mono ?_
                rintro e w14 ⟨pp, ec, rfl, hx14, hout⟩
                have HX14 := hide hx14
                have HOut := hide hout
                clear hx14 hout HAdd
                go_wp2_with fail
                refine (HOut.out.flush HF7.out.fnd.len HF7.out.fnd.l64 HF7.out.fnd.lt (by have := Hcb.out; omega) HX14.out.carr).mono ?_
                rintro e w15 ⟨rfl, hc15, hout2⟩
                have HC15 := hide hc15
                have HOut2 := hide hout2
                clear hc15 hout2 HOut
                go_wp2_with fail
                refine (HOut2.out.commits HC15.out).mono ?_
                rintro e w16 ⟨⟨ga, gn, gc⟩, R2, rfl, hgn, hc16, ho16, hm2, hk16⟩
                simp only at hgn ho16 ⊢
                have hx16 := hc16.at
                have HGn := hide hgn
                clear hc16 hgn
                go_wp2_with fail
                have hgn := HGn.out
                rcases hm2 with ⟨rfl, hm2⟩ | ⟨rfl, hm2⟩
                · obtain ⟨hl2, hs2⟩ := last_same HM8.out hm2
                  rw [← HFn.out] at hl2
                  rw [← hgn] at hl2
                  have hlt2 : R1.length < R2.length := by rw [← hgn, hl2, HFn.out]; omega
                  obtain ⟨y2, hy2⟩ : ∃ y2, y2 = R2[R1.length] := ⟨_, rfl⟩
                  obtain ⟨g2, G2, rfl, _, hb2, hl4, hm4, ha4⟩ := rv_at ho16 hlt2
                  have hs3 := hs2 hlt2
                  rw [← hy2] at hm4 ha4 hs3
                  rw [← HFn.out] at hl4 hm4
                  have HG2 := hide (And.intro hb2 (And.intro hl4 (And.intro hm4 (And.intro ha4 hs3))))
                  have HLen : Hid (decide ((gn : Int) = ((j + 1 : Nat) : Int)) = true) := hide (by rw [decide_eq_true_eq]; omega)
                  have HLt : Hid (j < gn) := hide (by omega)
                  have HXg := hide hx16
                  have HK16 := hide hk16
                  clear hb2 hl4 hm4 ha4 hs3 hy2 hlt2 hs2 hm2 hl2 ho16 hx16 hk16 hgn
                  refine hold_frame (p := fun fr => Code.wp Try.prog _ _ fr _) ?_
                  intro fr hfr
                  have e21 : fr.eval (.tmp 21) = .slice fa j fc := by rw [hfr.out]; rfl
                  have e22 : fr.eval (.tmp 22) = .int .i64 0 := by rw [hfr.out]; rfl
                  have e24 : fr.eval (.tmp 24) = .pointer (some ⟨bx, 0, none⟩) := by rw [hfr.out]; rfl
                  have e25 : fr.eval (.tmp 25) = .slice (some ⟨g2, 0, none⟩) gn gc := by rw [hfr.out]; rfl
                  have hts : fr.tmps.size = 226 := by rw [hfr.out]; rfl
                  refine region_S0 99 Try.mixed ?_
                  intro w0 hkw hheap
                  have hS0 : Kept (fun _ => False) w0 w0 := Kept.refl (fun _ => False) w0
                  refine ⟨Kept (fun _ => False) w0, ?_⟩
                  refine tkS 0 196 (v := .int .i64 0) hS0 rfl rfl (by kernel_rfl) (by kernel_rfl) (by kernel_rfl) (by kernel_rfl) (wanted_none rfl) (fun _ _ _ h => h) (fun U hU => r_move (by simp [eval_put_ne, eval_put_eq, size_put, hts, e22])) ?_
                  refine tkS 1 197 (v := .bool false) hS0 rfl rfl (by kernel_rfl) (by kernel_rfl) (by kernel_rfl) (by kernel_rfl) (wanted_none rfl) (fun _ _ _ h => h) (fun U hU => r_eqlE (i := 0) (j := 30) (by simp [eval_put_ne, eval_put_eq, size_put, hts]) rfl rfl) ?_
                  refine tkS 2 198 (v := .bool false) hS0 rfl rfl (by kernel_rfl) (by kernel_rfl) (by kernel_rfl) (by kernel_rfl) (wanted_none rfl) (fun _ _ _ h => h) (fun U hU => r_move (by simp [eval_put_ne, eval_put_eq, size_put, hts])) ?_
                  refine tkNS 3 199 hS0 rfl rfl (by kernel_rfl) (by kernel_rfl) (by kernel_rfl) (by kernel_rfl) (wanted_not (j := 2) (d := 198) (bb := true) rfl rfl rfl (by simp [eval_put_ne, eval_put_eq, size_put, hts]) (by simp [size_put, hts])) (fun _ _ _ h => h) ?_
                  refine tkNS 4 200 hS0 rfl rfl (by kernel_rfl) (by kernel_rfl) (by kernel_rfl) (by kernel_rfl) (wanted_not (j := 2) (d := 198) (bb := true) rfl rfl rfl (by simp [eval_put_ne, eval_put_eq, size_put, hts]) (by simp [size_put, hts])) (fun _ _ _ h => h) ?_
                  refine tkNS 5 201 hS0 rfl rfl (by kernel_rfl) (by kernel_rfl) (by kernel_rfl) (by kernel_rfl) (wanted_not (j := 2) (d := 198) (bb := true) rfl rfl rfl (by simp [eval_put_ne, eval_put_eq, size_put, hts]) (by simp [size_put, hts])) (fun _ _ _ h => h) ?_
                  refine tkNS 6 202 hS0 rfl rfl (by kernel_rfl) (by kernel_rfl) (by kernel_rfl) (by kernel_rfl) (wanted_not (j := 2) (d := 198) (bb := true) rfl rfl rfl (by simp [eval_put_ne, eval_put_eq, size_put, hts]) (by simp [size_put, hts])) (fun _ _ _ h => h) ?_
                  refine tkNS 7 203 hS0 rfl rfl (by kernel_rfl) (by kernel_rfl) (by kernel_rfl) (by kernel_rfl) (wanted_not (j := 2) (d := 198) (bb := true) rfl rfl rfl (by simp [eval_put_ne, eval_put_eq, size_put, hts]) (by simp [size_put, hts])) (fun _ _ _ h => h) ?_
                  refine tkS 8 204 (v := .bool false) hS0 rfl rfl (by kernel_rfl) (by kernel_rfl) (by kernel_rfl) (by kernel_rfl) (wanted_none rfl) (fun _ _ _ h => h) (fun U hU => r_pickF (by simp [eval_put_ne, eval_put_eq, size_put, hts]) rfl) ?_
                  refine tkS 9 205 (v := .bool false) hS0 rfl rfl (by kernel_rfl) (by kernel_rfl) (by kernel_rfl) (by kernel_rfl) (wanted_none rfl) (fun _ _ _ h => h) (fun U hU => r_move (by simp [eval_put_ne, eval_put_eq, size_put, hts])) ?_
                  refine tkS 10 206 (v := .int .i64 0) hS0 rfl rfl (by kernel_rfl) (by kernel_rfl) (by kernel_rfl) (by kernel_rfl) (wanted_some (j := 9) (d := 205) (bb := false) rfl rfl rfl (by simp [eval_put_ne, eval_put_eq, size_put, hts]) (by simp [size_put, hts])) (fun _ _ _ h => h) (fun U hU => r_move (by simp [eval_put_ne, eval_put_eq, size_put, hts, e22])) ?_
                  refine tkS 11 207 (v := .bool true) hS0 rfl rfl (by kernel_rfl) (by kernel_rfl) (by kernel_rfl) (by kernel_rfl) (wanted_some (j := 9) (d := 205) (bb := false) rfl rfl rfl (by simp [eval_put_ne, eval_put_eq, size_put, hts]) (by simp [size_put, hts])) (fun _ _ _ h => h) (fun U hU => r_eqlE (i := 0) (j := 0) (by simp [eval_put_ne, eval_put_eq, size_put, hts]) rfl rfl) ?_
                  refine tkS 12 208 (v := .bool true) hS0 rfl rfl (by kernel_rfl) (by kernel_rfl) (by kernel_rfl) (by kernel_rfl) (wanted_some (j := 9) (d := 205) (bb := false) rfl rfl rfl (by simp [eval_put_ne, eval_put_eq, size_put, hts]) (by simp [size_put, hts])) (fun _ _ _ h => h) (fun U hU => r_move (by simp [eval_put_ne, eval_put_eq, size_put, hts])) ?_
                  refine tkS 13 209 (v := .slice (some ⟨g2, 0, none⟩) gn gc) hS0 rfl rfl (by kernel_rfl) (by kernel_rfl) (by kernel_rfl) (by kernel_rfl) (wanted_some (j := 12) (d := 208) (bb := true) rfl rfl rfl (by simp [eval_put_ne, eval_put_eq, size_put, hts]) (by simp [size_put, hts])) (fun _ _ _ h => h) (fun U hU => r_move (by simp [eval_put_ne, eval_put_eq, size_put, hts, e25])) ?_
                  refine tkS 14 210 (v := .int .i64 (gn : Nat)) hS0 rfl rfl (by kernel_rfl) (by kernel_rfl) (by kernel_rfl) (by kernel_rfl) (wanted_some (j := 12) (d := 208) (bb := true) rfl rfl rfl (by simp [eval_put_ne, eval_put_eq, size_put, hts]) (by simp [size_put, hts])) (fun _ _ _ h => h) (fun U hU => r_len34 (ao := some ⟨g2, 0, none⟩) (l := gn) (c := gc) (by simp [eval_put_ne, eval_put_eq, size_put, hts])) ?_
                  refine tkS 15 211 (v := .slice fa j fc) hS0 rfl rfl (by kernel_rfl) (by kernel_rfl) (by kernel_rfl) (by kernel_rfl) (wanted_some (j := 12) (d := 208) (bb := true) rfl rfl rfl (by simp [eval_put_ne, eval_put_eq, size_put, hts]) (by simp [size_put, hts])) (fun _ _ _ h => h) (fun U hU => r_move (by simp [eval_put_ne, eval_put_eq, size_put, hts, e21])) ?_
                  refine tkS 16 212 (v := .int .i64 (j : Nat)) hS0 rfl rfl (by kernel_rfl) (by kernel_rfl) (by kernel_rfl) (by kernel_rfl) (wanted_some (j := 12) (d := 208) (bb := true) rfl rfl rfl (by simp [eval_put_ne, eval_put_eq, size_put, hts]) (by simp [size_put, hts])) (fun _ _ _ h => h) (fun U hU => r_len34 (ao := fa) (l := j) (c := fc) (by simp [eval_put_ne, eval_put_eq, size_put, hts])) ?_
                  refine tkS 17 213 (v := .int .i64 ((j + 1 : Nat) : Int)) hS0 rfl rfl (by kernel_rfl) (by kernel_rfl) (by kernel_rfl) (by kernel_rfl) (wanted_some (j := 12) (d := 208) (bb := true) rfl rfl rfl (by simp [eval_put_ne, eval_put_eq, size_put, hts]) (by simp [size_put, hts])) (fun _ _ _ h => h) (fun U hU => r_rgadd (i := j) (j := 1) (by simp [eval_put_ne, eval_put_eq, size_put, hts]) rfl (by have := Hf20.out; omega)) ?_
                  refine tkS 18 214 (v := .bool true) hS0 rfl rfl (by kernel_rfl) (by kernel_rfl) (by kernel_rfl) (by kernel_rfl) (wanted_some (j := 12) (d := 208) (bb := true) rfl rfl rfl (by simp [eval_put_ne, eval_put_eq, size_put, hts]) (by simp [size_put, hts])) (fun _ _ _ h => h) (fun U hU => r_rgeql (i := (gn : Int)) (j := ((j + 1 : Nat) : Int)) (by simp [eval_put_ne, eval_put_eq, size_put, hts]) (by simp [eval_put_ne, eval_put_eq, size_put, hts]) HLen.out) ?_
                  refine tkS 19 215 (v := .bool true) hS0 rfl rfl (by kernel_rfl) (by kernel_rfl) (by kernel_rfl) (by kernel_rfl) (wanted_some (j := 9) (d := 205) (bb := false) rfl rfl rfl (by simp [eval_put_ne, eval_put_eq, size_put, hts]) (by simp [size_put, hts])) (fun _ _ _ h => h) (fun U hU => r_pick (by simp [eval_put_ne, eval_put_eq, size_put, hts]) (by simp [eval_put_ne, eval_put_eq, size_put, hts])) ?_
                  refine tkS 20 216 (v := .bool true) hS0 rfl rfl (by kernel_rfl) (by kernel_rfl) (by kernel_rfl) (by kernel_rfl) (wanted_some (j := 9) (d := 205) (bb := false) rfl rfl rfl (by simp [eval_put_ne, eval_put_eq, size_put, hts]) (by simp [size_put, hts])) (fun _ _ _ h => h) (fun U hU => r_move (by simp [eval_put_ne, eval_put_eq, size_put, hts])) ?_
                  refine tkS 21 217 (v := .slice (some ⟨g2, 0, none⟩) gn gc) hS0 rfl rfl (by kernel_rfl) (by kernel_rfl) (by kernel_rfl) (by kernel_rfl) (wanted_some (j := 20) (d := 216) (bb := true) rfl rfl rfl (by simp [eval_put_ne, eval_put_eq, size_put, hts]) (by simp [size_put, hts])) (fun _ _ _ h => h) (fun U hU => r_move (by simp [eval_put_ne, eval_put_eq, size_put, hts, e25])) ?_
                  refine tkS 22 218 (v := .slice fa j fc) hS0 rfl rfl (by kernel_rfl) (by kernel_rfl) (by kernel_rfl) (by kernel_rfl) (wanted_some (j := 20) (d := 216) (bb := true) rfl rfl rfl (by simp [eval_put_ne, eval_put_eq, size_put, hts]) (by simp [size_put, hts])) (fun _ _ _ h => h) (fun U hU => r_move (by simp [eval_put_ne, eval_put_eq, size_put, hts, e21])) ?_
                  refine tkS 23 219 (v := .int .i64 (j : Nat)) hS0 rfl rfl (by kernel_rfl) (by kernel_rfl) (by kernel_rfl) (by kernel_rfl) (wanted_some (j := 20) (d := 216) (bb := true) rfl rfl rfl (by simp [eval_put_ne, eval_put_eq, size_put, hts]) (by simp [size_put, hts])) (fun _ _ _ h => h) (fun U hU => r_len34 (ao := fa) (l := j) (c := fc) (by simp [eval_put_ne, eval_put_eq, size_put, hts])) ?_
                  refine tkS 24 220 (v := .pointer (some ⟨g2, j * 4, none⟩)) hS0 rfl rfl (by kernel_rfl) (by kernel_rfl) (by kernel_rfl) (by kernel_rfl) (wanted_some (j := 20) (d := 216) (bb := true) rfl rfl rfl (by simp [eval_put_ne, eval_put_eq, size_put, hts]) (by simp [size_put, hts])) (fun _ _ _ h => h) (fun U hU => r_idx34 (b := g2) (len := gn) (cap := gc) j (by simp [eval_put_ne, eval_put_eq, size_put, hts]) (by simp [eval_put_ne, eval_put_eq, size_put, hts]) HLt.out) ?_
                  refine tkS 25 221 (v := y2.agg) hS0 rfl rfl (by kernel_rfl) (by kernel_rfl) (by kernel_rfl) (by kernel_rfl) (wanted_some (j := 20) (d := 216) (bb := true) rfl rfl rfl (by simp [eval_put_ne, eval_put_eq, size_put, hts]) (by simp [size_put, hts])) (fun _ _ _ h => h) (fun U hU => r_ldRv (b := g2) (k := j * 4) y2 (by simp [eval_put_ne, eval_put_eq, size_put, hts]) ((hkw.trans hU (fun _ _ h => h)).blk HG2.out.1 (fun h => h)) HG2.out.2.1 HG2.out.2.2.1) ?_
                  refine tkS 26 222 (v := (rvK0 q).agg) hS0 rfl rfl (by kernel_rfl) (by kernel_rfl) (by kernel_rfl) (by kernel_rfl) (wanted_some (j := 20) (d := 216) (bb := true) rfl rfl rfl (by simp [eval_put_ne, eval_put_eq, size_put, hts]) (by simp [size_put, hts])) (fun _ _ _ h => h) (fun U hU => r_ldRv (b := bx) (k := 0) (rvK0 q) (by simp [eval_put_ne, eval_put_eq, size_put, hts, e24]) (HXg.out.kept (hkw.trans hU (fun _ _ h => h))) (by simp) rfl) ?_
                  refine oneCS 27 223 (by kernel_rfl) rfl rfl (wanted_some (j := 20) (d := 216) (bb := true) rfl rfl rfl (by simp [eval_put_ne, eval_put_eq, size_put, hts]) (by simp [size_put, hts])) (r_call2 Try.func12 (by kernel_rfl) rfl rfl (by simp [eval_put_ne, eval_put_eq, size_put, hts]) (by simp [eval_put_ne, eval_put_eq, size_put, hts])) (refsame_at w0 y2 (rvK0 q) (HG2.out.2.2.2.1.kept hkw) (rvK0_at _ _) true HG2.out.2.2.2.2) ?_
                  rintro e v1 ⟨rfl, k1⟩
                  refine ⟨_, rfl, k1, ?_⟩
                  refine tkS 28 224 (v := .bool true) k1 rfl rfl (by kernel_rfl) (by kernel_rfl) (by kernel_rfl) (by kernel_rfl) (wanted_some (j := 9) (d := 205) (bb := false) rfl rfl rfl (by simp [eval_put_ne, eval_put_eq, size_put, hts]) (by simp [size_put, hts])) (fun _ _ _ h => h) (fun U hU => r_pick (by simp [eval_put_ne, eval_put_eq, size_put, hts]) (by simp [eval_put_ne, eval_put_eq, size_put, hts])) ?_
                  refine tkS 29 225 (v := .bool true) k1 rfl rfl (by kernel_rfl) (by kernel_rfl) (by kernel_rfl) (by kernel_rfl) (wanted_none rfl) (fun _ _ _ h => h) (fun U hU => r_pickF (by simp [eval_put_ne, eval_put_eq, size_put, hts]) (by simp [eval_put_ne, eval_put_eq, size_put, hts])) ?_
                  refine tkS 30 6 (v := .bool true) k1 rfl rfl (by kernel_rfl) (by kernel_rfl) (by kernel_rfl) (by kernel_rfl) (wanted_none rfl) (fun _ _ _ h => h) (fun U hU => r_assign (by simp [eval_put_ne, eval_put_eq, size_put, hts])) ?_
                  refine doneS (by kernel_rfl) ?_
                  rw [hfr.out]
                  clear hfr e21 e22 e24 e25 hts
                  simp only [put_lit, put_none, List.set_cons_succ, List.set_cons_zero]
                  have HKZ := hide (hkw.trans k1 (fun _ _ h => h))
                  clear hS0 k1 hheap hkw
                  go_wp2
                  go_ret
                  exact ⟨rfl, HK16.out.trans HKZ.out (fun _ _ h => h)⟩
                · have hl2 : gn = j := by
                    have := congrArg List.length hm2
                    rw [← HM8.out] at this
                    simp only [List.length_map] at this
                    rw [hgn, this, HFn.out]
                  have HLen : Hid (decide ((gn : Int) = (j : Int)) = true) := hide (by rw [decide_eq_true_eq]; omega)
                  have HK16 := hide hk16
                  clear hm2 hl2 ho16 hx16 hk16 hgn
                  refine hold_frame (p := fun fr => Code.wp Try.prog _ _ fr _) ?_
                  intro fr hfr
                  have e21 : fr.eval (.tmp 21) = .slice fa j fc := by rw [hfr.out]; rfl
                  have e22 : fr.eval (.tmp 22) = .int .i64 30 := by rw [hfr.out]; rfl
                  have e24 : fr.eval (.tmp 24) = .pointer (some ⟨bx, 0, none⟩) := by rw [hfr.out]; rfl
                  have e25 : fr.eval (.tmp 25) = .slice ga gn gc := by rw [hfr.out]; rfl
                  have hts : fr.tmps.size = 226 := by rw [hfr.out]; rfl
                  refine region_S0 99 Try.mixed ?_
                  intro w0 hkw hheap
                  have hS0 : Kept (fun _ => False) w0 w0 := Kept.refl (fun _ => False) w0
                  refine ⟨Kept (fun _ => False) w0, ?_⟩
                  refine tkS 0 196 (v := .int .i64 30) hS0 rfl rfl (by kernel_rfl) (by kernel_rfl) (by kernel_rfl) (by kernel_rfl) (wanted_none rfl) (fun _ _ _ h => h) (fun U hU => r_move (by simp [eval_put_ne, eval_put_eq, size_put, hts, e22])) ?_
                  refine tkS 1 197 (v := .bool true) hS0 rfl rfl (by kernel_rfl) (by kernel_rfl) (by kernel_rfl) (by kernel_rfl) (wanted_none rfl) (fun _ _ _ h => h) (fun U hU => r_eqlE (i := 30) (j := 30) (by simp [eval_put_ne, eval_put_eq, size_put, hts]) rfl rfl) ?_
                  refine tkS 2 198 (v := .bool true) hS0 rfl rfl (by kernel_rfl) (by kernel_rfl) (by kernel_rfl) (by kernel_rfl) (wanted_none rfl) (fun _ _ _ h => h) (fun U hU => r_move (by simp [eval_put_ne, eval_put_eq, size_put, hts])) ?_
                  refine tkS 3 199 (v := .slice ga gn gc) hS0 rfl rfl (by kernel_rfl) (by kernel_rfl) (by kernel_rfl) (by kernel_rfl) (wanted_some (j := 2) (d := 198) (bb := true) rfl rfl rfl (by simp [eval_put_ne, eval_put_eq, size_put, hts]) (by simp [size_put, hts])) (fun _ _ _ h => h) (fun U hU => r_move (by simp [eval_put_ne, eval_put_eq, size_put, hts, e25])) ?_
                  refine tkS 4 200 (v := .int .i64 (gn : Nat)) hS0 rfl rfl (by kernel_rfl) (by kernel_rfl) (by kernel_rfl) (by kernel_rfl) (wanted_some (j := 2) (d := 198) (bb := true) rfl rfl rfl (by simp [eval_put_ne, eval_put_eq, size_put, hts]) (by simp [size_put, hts])) (fun _ _ _ h => h) (fun U hU => r_len34 (ao := ga) (l := gn) (c := gc) (by simp [eval_put_ne, eval_put_eq, size_put, hts])) ?_
                  refine tkS 5 201 (v := .slice fa j fc) hS0 rfl rfl (by kernel_rfl) (by kernel_rfl) (by kernel_rfl) (by kernel_rfl) (wanted_some (j := 2) (d := 198) (bb := true) rfl rfl rfl (by simp [eval_put_ne, eval_put_eq, size_put, hts]) (by simp [size_put, hts])) (fun _ _ _ h => h) (fun U hU => r_move (by simp [eval_put_ne, eval_put_eq, size_put, hts, e21])) ?_
                  refine tkS 6 202 (v := .int .i64 (j : Nat)) hS0 rfl rfl (by kernel_rfl) (by kernel_rfl) (by kernel_rfl) (by kernel_rfl) (wanted_some (j := 2) (d := 198) (bb := true) rfl rfl rfl (by simp [eval_put_ne, eval_put_eq, size_put, hts]) (by simp [size_put, hts])) (fun _ _ _ h => h) (fun U hU => r_len34 (ao := fa) (l := j) (c := fc) (by simp [eval_put_ne, eval_put_eq, size_put, hts])) ?_
                  refine tkS 7 203 (v := .bool true) hS0 rfl rfl (by kernel_rfl) (by kernel_rfl) (by kernel_rfl) (by kernel_rfl) (wanted_some (j := 2) (d := 198) (bb := true) rfl rfl rfl (by simp [eval_put_ne, eval_put_eq, size_put, hts]) (by simp [size_put, hts])) (fun _ _ _ h => h) (fun U hU => r_rgeql (i := (gn : Int)) (j := (j : Int)) (by simp [eval_put_ne, eval_put_eq, size_put, hts]) (by simp [eval_put_ne, eval_put_eq, size_put, hts]) HLen.out) ?_
                  refine tkS 8 204 (v := .bool true) hS0 rfl rfl (by kernel_rfl) (by kernel_rfl) (by kernel_rfl) (by kernel_rfl) (wanted_none rfl) (fun _ _ _ h => h) (fun U hU => r_pick (by simp [eval_put_ne, eval_put_eq, size_put, hts]) (by simp [eval_put_ne, eval_put_eq, size_put, hts])) ?_
                  refine tkS 9 205 (v := .bool true) hS0 rfl rfl (by kernel_rfl) (by kernel_rfl) (by kernel_rfl) (by kernel_rfl) (wanted_none rfl) (fun _ _ _ h => h) (fun U hU => r_move (by simp [eval_put_ne, eval_put_eq, size_put, hts])) ?_
                  refine tkNS 10 206 hS0 rfl rfl (by kernel_rfl) (by kernel_rfl) (by kernel_rfl) (by kernel_rfl) (wanted_not (j := 9) (d := 205) (bb := false) rfl rfl rfl (by simp [eval_put_ne, eval_put_eq, size_put, hts]) (by simp [size_put, hts])) (fun _ _ _ h => h) ?_
                  refine tkNS 11 207 hS0 rfl rfl (by kernel_rfl) (by kernel_rfl) (by kernel_rfl) (by kernel_rfl) (wanted_not (j := 9) (d := 205) (bb := false) rfl rfl rfl (by simp [eval_put_ne, eval_put_eq, size_put, hts]) (by simp [size_put, hts])) (fun _ _ _ h => h) ?_
                  refine tkNS 12 208 hS0 rfl rfl (by kernel_rfl) (by kernel_rfl) (by kernel_rfl) (by kernel_rfl) (wanted_not (j := 9) (d := 205) (bb := false) rfl rfl rfl (by simp [eval_put_ne, eval_put_eq, size_put, hts]) (by simp [size_put, hts])) (fun _ _ _ h => h) ?_
                  refine tkNS 13 209 hS0 rfl rfl (by kernel_rfl) (by kernel_rfl) (by kernel_rfl) (by kernel_rfl) (wanted_undef (j := 12) (d := 208) (bb := true) rfl rfl rfl (by simp [eval_put_ne, eval_put_eq, size_put, hts]) (by simp [size_put, hts])) (fun _ _ _ h => h) ?_
                  refine tkNS 14 210 hS0 rfl rfl (by kernel_rfl) (by kernel_rfl) (by kernel_rfl) (by kernel_rfl) (wanted_undef (j := 12) (d := 208) (bb := true) rfl rfl rfl (by simp [eval_put_ne, eval_put_eq, size_put, hts]) (by simp [size_put, hts])) (fun _ _ _ h => h) ?_
                  refine tkNS 15 211 hS0 rfl rfl (by kernel_rfl) (by kernel_rfl) (by kernel_rfl) (by kernel_rfl) (wanted_undef (j := 12) (d := 208) (bb := true) rfl rfl rfl (by simp [eval_put_ne, eval_put_eq, size_put, hts]) (by simp [size_put, hts])) (fun _ _ _ h => h) ?_
                  refine tkNS 16 212 hS0 rfl rfl (by kernel_rfl) (by kernel_rfl) (by kernel_rfl) (by kernel_rfl) (wanted_undef (j := 12) (d := 208) (bb := true) rfl rfl rfl (by simp [eval_put_ne, eval_put_eq, size_put, hts]) (by simp [size_put, hts])) (fun _ _ _ h => h) ?_
                  refine tkNS 17 213 hS0 rfl rfl (by kernel_rfl) (by kernel_rfl) (by kernel_rfl) (by kernel_rfl) (wanted_undef (j := 12) (d := 208) (bb := true) rfl rfl rfl (by simp [eval_put_ne, eval_put_eq, size_put, hts]) (by simp [size_put, hts])) (fun _ _ _ h => h) ?_
                  refine tkNS 18 214 hS0 rfl rfl (by kernel_rfl) (by kernel_rfl) (by kernel_rfl) (by kernel_rfl) (wanted_undef (j := 12) (d := 208) (bb := true) rfl rfl rfl (by simp [eval_put_ne, eval_put_eq, size_put, hts]) (by simp [size_put, hts])) (fun _ _ _ h => h) ?_
                  refine tkNS 19 215 hS0 rfl rfl (by kernel_rfl) (by kernel_rfl) (by kernel_rfl) (by kernel_rfl) (wanted_not (j := 9) (d := 205) (bb := false) rfl rfl rfl (by simp [eval_put_ne, eval_put_eq, size_put, hts]) (by simp [size_put, hts])) (fun _ _ _ h => h) ?_
                  refine tkNS 20 216 hS0 rfl rfl (by kernel_rfl) (by kernel_rfl) (by kernel_rfl) (by kernel_rfl) (wanted_not (j := 9) (d := 205) (bb := false) rfl rfl rfl (by simp [eval_put_ne, eval_put_eq, size_put, hts]) (by simp [size_put, hts])) (fun _ _ _ h => h) ?_
                  refine tkNS 21 217 hS0 rfl rfl (by kernel_rfl) (by kernel_rfl) (by kernel_rfl) (by kernel_rfl) (wanted_undef (j := 20) (d := 216) (bb := true) rfl rfl rfl (by simp [eval_put_ne, eval_put_eq, size_put, hts]) (by simp [size_put, hts])) (fun _ _ _ h => h) ?_
                  refine tkNS 22 218 hS0 rfl rfl (by kernel_rfl) (by kernel_rfl) (by kernel_rfl) (by kernel_rfl) (wanted_undef (j := 20) (d := 216) (bb := true) rfl rfl rfl (by simp [eval_put_ne, eval_put_eq, size_put, hts]) (by simp [size_put, hts])) (fun _ _ _ h => h) ?_
                  refine tkNS 23 219 hS0 rfl rfl (by kernel_rfl) (by kernel_rfl) (by kernel_rfl) (by kernel_rfl) (wanted_undef (j := 20) (d := 216) (bb := true) rfl rfl rfl (by simp [eval_put_ne, eval_put_eq, size_put, hts]) (by simp [size_put, hts])) (fun _ _ _ h => h) ?_
                  refine tkNS 24 220 hS0 rfl rfl (by kernel_rfl) (by kernel_rfl) (by kernel_rfl) (by kernel_rfl) (wanted_undef (j := 20) (d := 216) (bb := true) rfl rfl rfl (by simp [eval_put_ne, eval_put_eq, size_put, hts]) (by simp [size_put, hts])) (fun _ _ _ h => h) ?_
                  refine tkNS 25 221 hS0 rfl rfl (by kernel_rfl) (by kernel_rfl) (by kernel_rfl) (by kernel_rfl) (wanted_undef (j := 20) (d := 216) (bb := true) rfl rfl rfl (by simp [eval_put_ne, eval_put_eq, size_put, hts]) (by simp [size_put, hts])) (fun _ _ _ h => h) ?_
                  refine tkNS 26 222 hS0 rfl rfl (by kernel_rfl) (by kernel_rfl) (by kernel_rfl) (by kernel_rfl) (wanted_undef (j := 20) (d := 216) (bb := true) rfl rfl rfl (by simp [eval_put_ne, eval_put_eq, size_put, hts]) (by simp [size_put, hts])) (fun _ _ _ h => h) ?_
                  refine tkNS 27 223 hS0 rfl rfl (by kernel_rfl) (by kernel_rfl) (by kernel_rfl) (by kernel_rfl) (wanted_undef (j := 20) (d := 216) (bb := true) rfl rfl rfl (by simp [eval_put_ne, eval_put_eq, size_put, hts]) (by simp [size_put, hts])) (fun _ _ _ h => h) ?_
                  refine tkNS 28 224 hS0 rfl rfl (by kernel_rfl) (by kernel_rfl) (by kernel_rfl) (by kernel_rfl) (wanted_not (j := 9) (d := 205) (bb := false) rfl rfl rfl (by simp [eval_put_ne, eval_put_eq, size_put, hts]) (by simp [size_put, hts])) (fun _ _ _ h => h) ?_
                  refine tkS 29 225 (v := .bool true) hS0 rfl rfl (by kernel_rfl) (by kernel_rfl) (by kernel_rfl) (by kernel_rfl) (wanted_none rfl) (fun _ _ _ h => h) (fun U hU => r_pick (by simp [eval_put_ne, eval_put_eq, size_put, hts]) rfl) ?_
                  refine tkS 30 6 (v := .bool true) hS0 rfl rfl (by kernel_rfl) (by kernel_rfl) (by kernel_rfl) (by kernel_rfl) (wanted_none rfl) (fun _ _ _ h => h) (fun U hU => r_assign (by simp [eval_put_ne, eval_put_eq, size_put, hts])) ?_
                  refine doneS (by kernel_rfl) ?_
                  rw [hfr.out]
                  clear hfr e21 e22 e24 e25 hts
                  simp only [put_lit, put_none, List.set_cons_succ, List.set_cons_zero]
                  have HKZ := hide hkw
                  clear hS0 hheap hkw
                  go_wp2
                  go_ret
                  exact ⟨rfl, HK16.out.trans HKZ.out (fun _ _ h => h)⟩
              · obtain ⟨mq, hmq⟩ : ∃ mq, en % 9 = mq := ⟨_, rfl⟩
                have hp := hs2.pos
                have hlt2 := hs2.lt
                have HenB : Hid (en ≤ 4611686018427387904) := hide (by omega)
                have Hmq2 : Hid (decide ((mq : Int) = 0) = false) := hide (by rw [decide_eq_false_iff_not]; omega)
                have Hmq := hide hmq
                have HS2 := hide hs2
                clear hmq hp hlt2 hen hc1 hs2
                go_wp2_with fail
                refine hold_frame (p := fun fr => Code.wp Try.prog _ _ fr _) ?_
                intro fr hfr
                have e9 : fr.eval (.tmp 9) = .pointer (some ⟨b, 0, none⟩) := by rw [hfr.out]; rfl
                have e24 : fr.eval (.tmp 24) = .pointer (some ⟨bx, 0, none⟩) := by rw [hfr.out]; rfl
                have hts : fr.tmps.size = 226 := by rw [hfr.out]; rfl
                refine region_S 99 (At37 bx q) Try.mixed ?_
                intro w0 hkw hheap
                have hr0 := HR12.out.same hkw
                have hS0 := HX12.out.kept hkw
                refine tkS 0 169 (v := .pointer (some ⟨b, 0, none⟩)) hS0 rfl rfl (by kernel_rfl) (by kernel_rfl) (by kernel_rfl) (by kernel_rfl) (wanted_none rfl) (fun _ _ _ h => h) (fun U hU => r_move (by simp [eval_put_ne, eval_put_eq, size_put, hts, e9])) ?_
                refine oneCS 1 170 (by kernel_rfl) rfl rfl (wanted_none rfl) (r_call1 Try.func13 (by kernel_rfl) rfl rfl (by simp [eval_put_ne, eval_put_eq, size_put, hts])) (rgend_at w0 b _ hr0.log) ?_
                rintro e v1 ⟨rfl, rfl⟩
                rw [← Hen.out]
                refine ⟨_, rfl, hS0, ?_⟩
                refine tkS 2 171 (v := .int .i64 (mq : Nat)) hS0 rfl rfl (by kernel_rfl) (by kernel_rfl) (by kernel_rfl) (by kernel_rfl) (wanted_none rfl) (fun _ _ _ h => h) (fun U hU => r_rgrem (i := en) (j := 9) (q := mq) (by simp [eval_put_ne, eval_put_eq, size_put, hts]) rfl (by decide) HenB.out Hmq.out) ?_
                refine tkS 3 172 (v := .bool false) hS0 rfl rfl (by kernel_rfl) (by kernel_rfl) (by kernel_rfl) (by kernel_rfl) (wanted_none rfl) (fun _ _ _ h => h) (fun U hU => r_rgeql (i := ((mq : Nat) : Int)) (j := 0) (by simp [eval_put_ne, eval_put_eq, size_put, hts]) rfl Hmq2.out) ?_
                refine tkS 4 173 (v := .bool false) hS0 rfl rfl (by kernel_rfl) (by kernel_rfl) (by kernel_rfl) (by kernel_rfl) (wanted_none rfl) (fun _ _ _ h => h) (fun U hU => r_move (by simp [eval_put_ne, eval_put_eq, size_put, hts])) ?_
                refine tkNS 5 174 hS0 rfl rfl (by kernel_rfl) (by kernel_rfl) (by kernel_rfl) (by kernel_rfl) (wanted_not (j := 4) (d := 173) (bb := true) rfl rfl rfl (by simp [eval_put_ne, eval_put_eq, size_put, hts]) (by simp [size_put, hts])) (fun _ _ _ h => h) ?_
                refine tkNS 6 175 hS0 rfl rfl (by kernel_rfl) (by kernel_rfl) (by kernel_rfl) (by kernel_rfl) (wanted_not (j := 4) (d := 173) (bb := true) rfl rfl rfl (by simp [eval_put_ne, eval_put_eq, size_put, hts]) (by simp [size_put, hts])) (fun _ _ _ h => h) ?_
                refine tkNS 7 176 hS0 rfl rfl (by kernel_rfl) (by kernel_rfl) (by kernel_rfl) (by kernel_rfl) (wanted_not (j := 4) (d := 173) (bb := true) rfl rfl rfl (by simp [eval_put_ne, eval_put_eq, size_put, hts]) (by simp [size_put, hts])) (fun _ _ _ h => h) ?_
                refine tkNS 8 177 hS0 rfl rfl (by kernel_rfl) (by kernel_rfl) (by kernel_rfl) (by kernel_rfl) (wanted_not (j := 4) (d := 173) (bb := true) rfl rfl rfl (by simp [eval_put_ne, eval_put_eq, size_put, hts]) (by simp [size_put, hts])) (fun _ _ _ h => h) ?_
                refine tkNS 9 178 hS0 rfl rfl (by kernel_rfl) (by kernel_rfl) (by kernel_rfl) (by kernel_rfl) (wanted_not (j := 4) (d := 173) (bb := true) rfl rfl rfl (by simp [eval_put_ne, eval_put_eq, size_put, hts]) (by simp [size_put, hts])) (fun _ _ _ h => h) ?_
                refine tkNS 10 179 hS0 rfl rfl (by kernel_rfl) (by kernel_rfl) (by kernel_rfl) (by kernel_rfl) (wanted_not (j := 4) (d := 173) (bb := true) rfl rfl rfl (by simp [eval_put_ne, eval_put_eq, size_put, hts]) (by simp [size_put, hts])) (fun _ _ _ h => h) ?_
                refine tkNS 11 180 hS0 rfl rfl (by kernel_rfl) (by kernel_rfl) (by kernel_rfl) (by kernel_rfl) (wanted_not (j := 4) (d := 173) (bb := true) rfl rfl rfl (by simp [eval_put_ne, eval_put_eq, size_put, hts]) (by simp [size_put, hts])) (fun _ _ _ h => h) ?_
                refine tkNS 12 181 hS0 rfl rfl (by kernel_rfl) (by kernel_rfl) (by kernel_rfl) (by kernel_rfl) (wanted_not (j := 4) (d := 173) (bb := true) rfl rfl rfl (by simp [eval_put_ne, eval_put_eq, size_put, hts]) (by simp [size_put, hts])) (fun _ _ _ h => h) ?_
                refine tkS 13 182 (v := .bool false) hS0 rfl rfl (by kernel_rfl) (by kernel_rfl) (by kernel_rfl) (by kernel_rfl) (wanted_none rfl) (fun _ _ _ h => h) (fun U hU => r_pickF (by simp [eval_put_ne, eval_put_eq, size_put, hts]) rfl) ?_
                refine doneS (by kernel_rfl) ?_
                rw [hfr.out]
                clear hfr e9 e24 hts
                simp only [put_lit, put_none, List.set_cons_succ, List.set_cons_zero]
                have HX13 := hide hS0
                have HAdd := hide (fnd_addB HF7.out.fnd HS2.out Hq.out Hcb.out hr0 hS0.carr)
                clear hr0 hS0 hkw hheap
                have HB13 : Hid (Blk _ bx [.int .i64 3, .int .i64 1, .int .i64 (q : Nat), .slice none 0 0] 37) := hide HX13.out
                go_wp2_with (first
                  | (with_reducible refine aw_load (x := .tmp 24) (M := [.int .i64 3, .int .i64 1, .int .i64 (q : Nat), .slice none 0 0]) Try.agg37 rfl HB13.out (by simp) rfl ?_)
                  | fail)
                refine HAdd.out.mono ?_
                rintro e w14 ⟨pp, ec, rfl, hx14, hout⟩
                have HX14 := hide hx14
                have HOut := hide hout
                clear hx14 hout HAdd
                go_wp2_with fail
                refine (HOut.out.flush HF7.out.fnd.len HF7.out.fnd.l64 HF7.out.fnd.lt (by have := Hcb.out; omega) HX14.out.carr).mono ?_
                rintro e w15 ⟨rfl, hc15, hout2⟩
                have HC15 := hide hc15
                have HOut2 := hide hout2
                clear hc15 hout2 HOut
                go_wp2_with fail
                refine (HOut2.out.commits HC15.out).mono ?_
                rintro e w16 ⟨⟨ga, gn, gc⟩, R2, rfl, hgn, hc16, ho16, hm2, hk16⟩
                simp only at hgn ho16 ⊢
                have hx16 := hc16.at
                have HGn := hide hgn
                clear hc16 hgn
                go_wp2_with fail
                have hgn := HGn.out
                rcases hm2 with ⟨rfl, hm2⟩ | ⟨rfl, hm2⟩
                · obtain ⟨hl2, hs2⟩ := last_same HM8.out hm2
                  rw [← HFn.out] at hl2
                  rw [← hgn] at hl2
                  have hlt2 : R1.length < R2.length := by rw [← hgn, hl2, HFn.out]; omega
                  obtain ⟨y2, hy2⟩ : ∃ y2, y2 = R2[R1.length] := ⟨_, rfl⟩
                  obtain ⟨g2, G2, rfl, _, hb2, hl4, hm4, ha4⟩ := rv_at ho16 hlt2
                  have hs3 := hs2 hlt2
                  rw [← hy2] at hm4 ha4 hs3
                  rw [← HFn.out] at hl4 hm4
                  have HG2 := hide (And.intro hb2 (And.intro hl4 (And.intro hm4 (And.intro ha4 hs3))))
                  have HLen : Hid (decide ((gn : Int) = ((j + 1 : Nat) : Int)) = true) := hide (by rw [decide_eq_true_eq]; omega)
                  have HLt : Hid (j < gn) := hide (by omega)
                  have HXg := hide hx16
                  have HK16 := hide hk16
                  clear hb2 hl4 hm4 ha4 hs3 hy2 hlt2 hs2 hm2 hl2 ho16 hx16 hk16 hgn
                  refine hold_frame (p := fun fr => Code.wp Try.prog _ _ fr _) ?_
                  intro fr hfr
                  have e21 : fr.eval (.tmp 21) = .slice fa j fc := by rw [hfr.out]; rfl
                  have e22 : fr.eval (.tmp 22) = .int .i64 0 := by rw [hfr.out]; rfl
                  have e24 : fr.eval (.tmp 24) = .pointer (some ⟨bx, 0, none⟩) := by rw [hfr.out]; rfl
                  have e25 : fr.eval (.tmp 25) = .slice (some ⟨g2, 0, none⟩) gn gc := by rw [hfr.out]; rfl
                  have hts : fr.tmps.size = 226 := by rw [hfr.out]; rfl
                  refine region_S0 99 Try.mixed ?_
                  intro w0 hkw hheap
                  have hS0 : Kept (fun _ => False) w0 w0 := Kept.refl (fun _ => False) w0
                  refine ⟨Kept (fun _ => False) w0, ?_⟩
                  refine tkS 0 196 (v := .int .i64 0) hS0 rfl rfl (by kernel_rfl) (by kernel_rfl) (by kernel_rfl) (by kernel_rfl) (wanted_none rfl) (fun _ _ _ h => h) (fun U hU => r_move (by simp [eval_put_ne, eval_put_eq, size_put, hts, e22])) ?_
                  refine tkS 1 197 (v := .bool false) hS0 rfl rfl (by kernel_rfl) (by kernel_rfl) (by kernel_rfl) (by kernel_rfl) (wanted_none rfl) (fun _ _ _ h => h) (fun U hU => r_eqlE (i := 0) (j := 30) (by simp [eval_put_ne, eval_put_eq, size_put, hts]) rfl rfl) ?_
                  refine tkS 2 198 (v := .bool false) hS0 rfl rfl (by kernel_rfl) (by kernel_rfl) (by kernel_rfl) (by kernel_rfl) (wanted_none rfl) (fun _ _ _ h => h) (fun U hU => r_move (by simp [eval_put_ne, eval_put_eq, size_put, hts])) ?_
                  refine tkNS 3 199 hS0 rfl rfl (by kernel_rfl) (by kernel_rfl) (by kernel_rfl) (by kernel_rfl) (wanted_not (j := 2) (d := 198) (bb := true) rfl rfl rfl (by simp [eval_put_ne, eval_put_eq, size_put, hts]) (by simp [size_put, hts])) (fun _ _ _ h => h) ?_
                  refine tkNS 4 200 hS0 rfl rfl (by kernel_rfl) (by kernel_rfl) (by kernel_rfl) (by kernel_rfl) (wanted_not (j := 2) (d := 198) (bb := true) rfl rfl rfl (by simp [eval_put_ne, eval_put_eq, size_put, hts]) (by simp [size_put, hts])) (fun _ _ _ h => h) ?_
                  refine tkNS 5 201 hS0 rfl rfl (by kernel_rfl) (by kernel_rfl) (by kernel_rfl) (by kernel_rfl) (wanted_not (j := 2) (d := 198) (bb := true) rfl rfl rfl (by simp [eval_put_ne, eval_put_eq, size_put, hts]) (by simp [size_put, hts])) (fun _ _ _ h => h) ?_
                  refine tkNS 6 202 hS0 rfl rfl (by kernel_rfl) (by kernel_rfl) (by kernel_rfl) (by kernel_rfl) (wanted_not (j := 2) (d := 198) (bb := true) rfl rfl rfl (by simp [eval_put_ne, eval_put_eq, size_put, hts]) (by simp [size_put, hts])) (fun _ _ _ h => h) ?_
                  refine tkNS 7 203 hS0 rfl rfl (by kernel_rfl) (by kernel_rfl) (by kernel_rfl) (by kernel_rfl) (wanted_not (j := 2) (d := 198) (bb := true) rfl rfl rfl (by simp [eval_put_ne, eval_put_eq, size_put, hts]) (by simp [size_put, hts])) (fun _ _ _ h => h) ?_
                  refine tkS 8 204 (v := .bool false) hS0 rfl rfl (by kernel_rfl) (by kernel_rfl) (by kernel_rfl) (by kernel_rfl) (wanted_none rfl) (fun _ _ _ h => h) (fun U hU => r_pickF (by simp [eval_put_ne, eval_put_eq, size_put, hts]) rfl) ?_
                  refine tkS 9 205 (v := .bool false) hS0 rfl rfl (by kernel_rfl) (by kernel_rfl) (by kernel_rfl) (by kernel_rfl) (wanted_none rfl) (fun _ _ _ h => h) (fun U hU => r_move (by simp [eval_put_ne, eval_put_eq, size_put, hts])) ?_
                  refine tkS 10 206 (v := .int .i64 0) hS0 rfl rfl (by kernel_rfl) (by kernel_rfl) (by kernel_rfl) (by kernel_rfl) (wanted_some (j := 9) (d := 205) (bb := false) rfl rfl rfl (by simp [eval_put_ne, eval_put_eq, size_put, hts]) (by simp [size_put, hts])) (fun _ _ _ h => h) (fun U hU => r_move (by simp [eval_put_ne, eval_put_eq, size_put, hts, e22])) ?_
                  refine tkS 11 207 (v := .bool true) hS0 rfl rfl (by kernel_rfl) (by kernel_rfl) (by kernel_rfl) (by kernel_rfl) (wanted_some (j := 9) (d := 205) (bb := false) rfl rfl rfl (by simp [eval_put_ne, eval_put_eq, size_put, hts]) (by simp [size_put, hts])) (fun _ _ _ h => h) (fun U hU => r_eqlE (i := 0) (j := 0) (by simp [eval_put_ne, eval_put_eq, size_put, hts]) rfl rfl) ?_
                  refine tkS 12 208 (v := .bool true) hS0 rfl rfl (by kernel_rfl) (by kernel_rfl) (by kernel_rfl) (by kernel_rfl) (wanted_some (j := 9) (d := 205) (bb := false) rfl rfl rfl (by simp [eval_put_ne, eval_put_eq, size_put, hts]) (by simp [size_put, hts])) (fun _ _ _ h => h) (fun U hU => r_move (by simp [eval_put_ne, eval_put_eq, size_put, hts])) ?_
                  refine tkS 13 209 (v := .slice (some ⟨g2, 0, none⟩) gn gc) hS0 rfl rfl (by kernel_rfl) (by kernel_rfl) (by kernel_rfl) (by kernel_rfl) (wanted_some (j := 12) (d := 208) (bb := true) rfl rfl rfl (by simp [eval_put_ne, eval_put_eq, size_put, hts]) (by simp [size_put, hts])) (fun _ _ _ h => h) (fun U hU => r_move (by simp [eval_put_ne, eval_put_eq, size_put, hts, e25])) ?_
                  refine tkS 14 210 (v := .int .i64 (gn : Nat)) hS0 rfl rfl (by kernel_rfl) (by kernel_rfl) (by kernel_rfl) (by kernel_rfl) (wanted_some (j := 12) (d := 208) (bb := true) rfl rfl rfl (by simp [eval_put_ne, eval_put_eq, size_put, hts]) (by simp [size_put, hts])) (fun _ _ _ h => h) (fun U hU => r_len34 (ao := some ⟨g2, 0, none⟩) (l := gn) (c := gc) (by simp [eval_put_ne, eval_put_eq, size_put, hts])) ?_
                  refine tkS 15 211 (v := .slice fa j fc) hS0 rfl rfl (by kernel_rfl) (by kernel_rfl) (by kernel_rfl) (by kernel_rfl) (wanted_some (j := 12) (d := 208) (bb := true) rfl rfl rfl (by simp [eval_put_ne, eval_put_eq, size_put, hts]) (by simp [size_put, hts])) (fun _ _ _ h => h) (fun U hU => r_move (by simp [eval_put_ne, eval_put_eq, size_put, hts, e21])) ?_
                  refine tkS 16 212 (v := .int .i64 (j : Nat)) hS0 rfl rfl (by kernel_rfl) (by kernel_rfl) (by kernel_rfl) (by kernel_rfl) (wanted_some (j := 12) (d := 208) (bb := true) rfl rfl rfl (by simp [eval_put_ne, eval_put_eq, size_put, hts]) (by simp [size_put, hts])) (fun _ _ _ h => h) (fun U hU => r_len34 (ao := fa) (l := j) (c := fc) (by simp [eval_put_ne, eval_put_eq, size_put, hts])) ?_
                  refine tkS 17 213 (v := .int .i64 ((j + 1 : Nat) : Int)) hS0 rfl rfl (by kernel_rfl) (by kernel_rfl) (by kernel_rfl) (by kernel_rfl) (wanted_some (j := 12) (d := 208) (bb := true) rfl rfl rfl (by simp [eval_put_ne, eval_put_eq, size_put, hts]) (by simp [size_put, hts])) (fun _ _ _ h => h) (fun U hU => r_rgadd (i := j) (j := 1) (by simp [eval_put_ne, eval_put_eq, size_put, hts]) rfl (by have := Hf20.out; omega)) ?_
                  refine tkS 18 214 (v := .bool true) hS0 rfl rfl (by kernel_rfl) (by kernel_rfl) (by kernel_rfl) (by kernel_rfl) (wanted_some (j := 12) (d := 208) (bb := true) rfl rfl rfl (by simp [eval_put_ne, eval_put_eq, size_put, hts]) (by simp [size_put, hts])) (fun _ _ _ h => h) (fun U hU => r_rgeql (i := (gn : Int)) (j := ((j + 1 : Nat) : Int)) (by simp [eval_put_ne, eval_put_eq, size_put, hts]) (by simp [eval_put_ne, eval_put_eq, size_put, hts]) HLen.out) ?_
                  refine tkS 19 215 (v := .bool true) hS0 rfl rfl (by kernel_rfl) (by kernel_rfl) (by kernel_rfl) (by kernel_rfl) (wanted_some (j := 9) (d := 205) (bb := false) rfl rfl rfl (by simp [eval_put_ne, eval_put_eq, size_put, hts]) (by simp [size_put, hts])) (fun _ _ _ h => h) (fun U hU => r_pick (by simp [eval_put_ne, eval_put_eq, size_put, hts]) (by simp [eval_put_ne, eval_put_eq, size_put, hts])) ?_
                  refine tkS 20 216 (v := .bool true) hS0 rfl rfl (by kernel_rfl) (by kernel_rfl) (by kernel_rfl) (by kernel_rfl) (wanted_some (j := 9) (d := 205) (bb := false) rfl rfl rfl (by simp [eval_put_ne, eval_put_eq, size_put, hts]) (by simp [size_put, hts])) (fun _ _ _ h => h) (fun U hU => r_move (by simp [eval_put_ne, eval_put_eq, size_put, hts])) ?_
                  refine tkS 21 217 (v := .slice (some ⟨g2, 0, none⟩) gn gc) hS0 rfl rfl (by kernel_rfl) (by kernel_rfl) (by kernel_rfl) (by kernel_rfl) (wanted_some (j := 20) (d := 216) (bb := true) rfl rfl rfl (by simp [eval_put_ne, eval_put_eq, size_put, hts]) (by simp [size_put, hts])) (fun _ _ _ h => h) (fun U hU => r_move (by simp [eval_put_ne, eval_put_eq, size_put, hts, e25])) ?_
                  refine tkS 22 218 (v := .slice fa j fc) hS0 rfl rfl (by kernel_rfl) (by kernel_rfl) (by kernel_rfl) (by kernel_rfl) (wanted_some (j := 20) (d := 216) (bb := true) rfl rfl rfl (by simp [eval_put_ne, eval_put_eq, size_put, hts]) (by simp [size_put, hts])) (fun _ _ _ h => h) (fun U hU => r_move (by simp [eval_put_ne, eval_put_eq, size_put, hts, e21])) ?_
                  refine tkS 23 219 (v := .int .i64 (j : Nat)) hS0 rfl rfl (by kernel_rfl) (by kernel_rfl) (by kernel_rfl) (by kernel_rfl) (wanted_some (j := 20) (d := 216) (bb := true) rfl rfl rfl (by simp [eval_put_ne, eval_put_eq, size_put, hts]) (by simp [size_put, hts])) (fun _ _ _ h => h) (fun U hU => r_len34 (ao := fa) (l := j) (c := fc) (by simp [eval_put_ne, eval_put_eq, size_put, hts])) ?_
                  refine tkS 24 220 (v := .pointer (some ⟨g2, j * 4, none⟩)) hS0 rfl rfl (by kernel_rfl) (by kernel_rfl) (by kernel_rfl) (by kernel_rfl) (wanted_some (j := 20) (d := 216) (bb := true) rfl rfl rfl (by simp [eval_put_ne, eval_put_eq, size_put, hts]) (by simp [size_put, hts])) (fun _ _ _ h => h) (fun U hU => r_idx34 (b := g2) (len := gn) (cap := gc) j (by simp [eval_put_ne, eval_put_eq, size_put, hts]) (by simp [eval_put_ne, eval_put_eq, size_put, hts]) HLt.out) ?_
                  refine tkS 25 221 (v := y2.agg) hS0 rfl rfl (by kernel_rfl) (by kernel_rfl) (by kernel_rfl) (by kernel_rfl) (wanted_some (j := 20) (d := 216) (bb := true) rfl rfl rfl (by simp [eval_put_ne, eval_put_eq, size_put, hts]) (by simp [size_put, hts])) (fun _ _ _ h => h) (fun U hU => r_ldRv (b := g2) (k := j * 4) y2 (by simp [eval_put_ne, eval_put_eq, size_put, hts]) ((hkw.trans hU (fun _ _ h => h)).blk HG2.out.1 (fun h => h)) HG2.out.2.1 HG2.out.2.2.1) ?_
                  refine tkS 26 222 (v := (rvK0 q).agg) hS0 rfl rfl (by kernel_rfl) (by kernel_rfl) (by kernel_rfl) (by kernel_rfl) (wanted_some (j := 20) (d := 216) (bb := true) rfl rfl rfl (by simp [eval_put_ne, eval_put_eq, size_put, hts]) (by simp [size_put, hts])) (fun _ _ _ h => h) (fun U hU => r_ldRv (b := bx) (k := 0) (rvK0 q) (by simp [eval_put_ne, eval_put_eq, size_put, hts, e24]) (HXg.out.kept (hkw.trans hU (fun _ _ h => h))) (by simp) rfl) ?_
                  refine oneCS 27 223 (by kernel_rfl) rfl rfl (wanted_some (j := 20) (d := 216) (bb := true) rfl rfl rfl (by simp [eval_put_ne, eval_put_eq, size_put, hts]) (by simp [size_put, hts])) (r_call2 Try.func12 (by kernel_rfl) rfl rfl (by simp [eval_put_ne, eval_put_eq, size_put, hts]) (by simp [eval_put_ne, eval_put_eq, size_put, hts])) (refsame_at w0 y2 (rvK0 q) (HG2.out.2.2.2.1.kept hkw) (rvK0_at _ _) true HG2.out.2.2.2.2) ?_
                  rintro e v1 ⟨rfl, k1⟩
                  refine ⟨_, rfl, k1, ?_⟩
                  refine tkS 28 224 (v := .bool true) k1 rfl rfl (by kernel_rfl) (by kernel_rfl) (by kernel_rfl) (by kernel_rfl) (wanted_some (j := 9) (d := 205) (bb := false) rfl rfl rfl (by simp [eval_put_ne, eval_put_eq, size_put, hts]) (by simp [size_put, hts])) (fun _ _ _ h => h) (fun U hU => r_pick (by simp [eval_put_ne, eval_put_eq, size_put, hts]) (by simp [eval_put_ne, eval_put_eq, size_put, hts])) ?_
                  refine tkS 29 225 (v := .bool true) k1 rfl rfl (by kernel_rfl) (by kernel_rfl) (by kernel_rfl) (by kernel_rfl) (wanted_none rfl) (fun _ _ _ h => h) (fun U hU => r_pickF (by simp [eval_put_ne, eval_put_eq, size_put, hts]) (by simp [eval_put_ne, eval_put_eq, size_put, hts])) ?_
                  refine tkS 30 6 (v := .bool true) k1 rfl rfl (by kernel_rfl) (by kernel_rfl) (by kernel_rfl) (by kernel_rfl) (wanted_none rfl) (fun _ _ _ h => h) (fun U hU => r_assign (by simp [eval_put_ne, eval_put_eq, size_put, hts])) ?_
                  refine doneS (by kernel_rfl) ?_
                  rw [hfr.out]
                  clear hfr e21 e22 e24 e25 hts
                  simp only [put_lit, put_none, List.set_cons_succ, List.set_cons_zero]
                  have HKZ := hide (hkw.trans k1 (fun _ _ h => h))
                  clear hS0 k1 hheap hkw
                  go_wp2
                  go_ret
                  exact ⟨rfl, HK16.out.trans HKZ.out (fun _ _ h => h)⟩
                · have hl2 : gn = j := by
                    have := congrArg List.length hm2
                    rw [← HM8.out] at this
                    simp only [List.length_map] at this
                    rw [hgn, this, HFn.out]
                  have HLen : Hid (decide ((gn : Int) = (j : Int)) = true) := hide (by rw [decide_eq_true_eq]; omega)
                  have HK16 := hide hk16
                  clear hm2 hl2 ho16 hx16 hk16 hgn
                  refine hold_frame (p := fun fr => Code.wp Try.prog _ _ fr _) ?_
                  intro fr hfr
                  have e21 : fr.eval (.tmp 21) = .slice fa j fc := by rw [hfr.out]; rfl
                  have e22 : fr.eval (.tmp 22) = .int .i64 30 := by rw [hfr.out]; rfl
                  have e24 : fr.eval (.tmp 24) = .pointer (some ⟨bx, 0, none⟩) := by rw [hfr.out]; rfl
                  have e25 : fr.eval (.tmp 25) = .slice ga gn gc := by rw [hfr.out]; rfl
                  have hts : fr.tmps.size = 226 := by rw [hfr.out]; rfl
                  refine region_S0 99 Try.mixed ?_
                  intro w0 hkw hheap
                  have hS0 : Kept (fun _ => False) w0 w0 := Kept.refl (fun _ => False) w0
                  refine ⟨Kept (fun _ => False) w0, ?_⟩
                  refine tkS 0 196 (v := .int .i64 30) hS0 rfl rfl (by kernel_rfl) (by kernel_rfl) (by kernel_rfl) (by kernel_rfl) (wanted_none rfl) (fun _ _ _ h => h) (fun U hU => r_move (by simp [eval_put_ne, eval_put_eq, size_put, hts, e22])) ?_
                  refine tkS 1 197 (v := .bool true) hS0 rfl rfl (by kernel_rfl) (by kernel_rfl) (by kernel_rfl) (by kernel_rfl) (wanted_none rfl) (fun _ _ _ h => h) (fun U hU => r_eqlE (i := 30) (j := 30) (by simp [eval_put_ne, eval_put_eq, size_put, hts]) rfl rfl) ?_
                  refine tkS 2 198 (v := .bool true) hS0 rfl rfl (by kernel_rfl) (by kernel_rfl) (by kernel_rfl) (by kernel_rfl) (wanted_none rfl) (fun _ _ _ h => h) (fun U hU => r_move (by simp [eval_put_ne, eval_put_eq, size_put, hts])) ?_
                  refine tkS 3 199 (v := .slice ga gn gc) hS0 rfl rfl (by kernel_rfl) (by kernel_rfl) (by kernel_rfl) (by kernel_rfl) (wanted_some (j := 2) (d := 198) (bb := true) rfl rfl rfl (by simp [eval_put_ne, eval_put_eq, size_put, hts]) (by simp [size_put, hts])) (fun _ _ _ h => h) (fun U hU => r_move (by simp [eval_put_ne, eval_put_eq, size_put, hts, e25])) ?_
                  refine tkS 4 200 (v := .int .i64 (gn : Nat)) hS0 rfl rfl (by kernel_rfl) (by kernel_rfl) (by kernel_rfl) (by kernel_rfl) (wanted_some (j := 2) (d := 198) (bb := true) rfl rfl rfl (by simp [eval_put_ne, eval_put_eq, size_put, hts]) (by simp [size_put, hts])) (fun _ _ _ h => h) (fun U hU => r_len34 (ao := ga) (l := gn) (c := gc) (by simp [eval_put_ne, eval_put_eq, size_put, hts])) ?_
                  refine tkS 5 201 (v := .slice fa j fc) hS0 rfl rfl (by kernel_rfl) (by kernel_rfl) (by kernel_rfl) (by kernel_rfl) (wanted_some (j := 2) (d := 198) (bb := true) rfl rfl rfl (by simp [eval_put_ne, eval_put_eq, size_put, hts]) (by simp [size_put, hts])) (fun _ _ _ h => h) (fun U hU => r_move (by simp [eval_put_ne, eval_put_eq, size_put, hts, e21])) ?_
                  refine tkS 6 202 (v := .int .i64 (j : Nat)) hS0 rfl rfl (by kernel_rfl) (by kernel_rfl) (by kernel_rfl) (by kernel_rfl) (wanted_some (j := 2) (d := 198) (bb := true) rfl rfl rfl (by simp [eval_put_ne, eval_put_eq, size_put, hts]) (by simp [size_put, hts])) (fun _ _ _ h => h) (fun U hU => r_len34 (ao := fa) (l := j) (c := fc) (by simp [eval_put_ne, eval_put_eq, size_put, hts])) ?_
                  refine tkS 7 203 (v := .bool true) hS0 rfl rfl (by kernel_rfl) (by kernel_rfl) (by kernel_rfl) (by kernel_rfl) (wanted_some (j := 2) (d := 198) (bb := true) rfl rfl rfl (by simp [eval_put_ne, eval_put_eq, size_put, hts]) (by simp [size_put, hts])) (fun _ _ _ h => h) (fun U hU => r_rgeql (i := (gn : Int)) (j := (j : Int)) (by simp [eval_put_ne, eval_put_eq, size_put, hts]) (by simp [eval_put_ne, eval_put_eq, size_put, hts]) HLen.out) ?_
                  refine tkS 8 204 (v := .bool true) hS0 rfl rfl (by kernel_rfl) (by kernel_rfl) (by kernel_rfl) (by kernel_rfl) (wanted_none rfl) (fun _ _ _ h => h) (fun U hU => r_pick (by simp [eval_put_ne, eval_put_eq, size_put, hts]) (by simp [eval_put_ne, eval_put_eq, size_put, hts])) ?_
                  refine tkS 9 205 (v := .bool true) hS0 rfl rfl (by kernel_rfl) (by kernel_rfl) (by kernel_rfl) (by kernel_rfl) (wanted_none rfl) (fun _ _ _ h => h) (fun U hU => r_move (by simp [eval_put_ne, eval_put_eq, size_put, hts])) ?_
                  refine tkNS 10 206 hS0 rfl rfl (by kernel_rfl) (by kernel_rfl) (by kernel_rfl) (by kernel_rfl) (wanted_not (j := 9) (d := 205) (bb := false) rfl rfl rfl (by simp [eval_put_ne, eval_put_eq, size_put, hts]) (by simp [size_put, hts])) (fun _ _ _ h => h) ?_
                  refine tkNS 11 207 hS0 rfl rfl (by kernel_rfl) (by kernel_rfl) (by kernel_rfl) (by kernel_rfl) (wanted_not (j := 9) (d := 205) (bb := false) rfl rfl rfl (by simp [eval_put_ne, eval_put_eq, size_put, hts]) (by simp [size_put, hts])) (fun _ _ _ h => h) ?_
                  refine tkNS 12 208 hS0 rfl rfl (by kernel_rfl) (by kernel_rfl) (by kernel_rfl) (by kernel_rfl) (wanted_not (j := 9) (d := 205) (bb := false) rfl rfl rfl (by simp [eval_put_ne, eval_put_eq, size_put, hts]) (by simp [size_put, hts])) (fun _ _ _ h => h) ?_
                  refine tkNS 13 209 hS0 rfl rfl (by kernel_rfl) (by kernel_rfl) (by kernel_rfl) (by kernel_rfl) (wanted_undef (j := 12) (d := 208) (bb := true) rfl rfl rfl (by simp [eval_put_ne, eval_put_eq, size_put, hts]) (by simp [size_put, hts])) (fun _ _ _ h => h) ?_
                  refine tkNS 14 210 hS0 rfl rfl (by kernel_rfl) (by kernel_rfl) (by kernel_rfl) (by kernel_rfl) (wanted_undef (j := 12) (d := 208) (bb := true) rfl rfl rfl (by simp [eval_put_ne, eval_put_eq, size_put, hts]) (by simp [size_put, hts])) (fun _ _ _ h => h) ?_
                  refine tkNS 15 211 hS0 rfl rfl (by kernel_rfl) (by kernel_rfl) (by kernel_rfl) (by kernel_rfl) (wanted_undef (j := 12) (d := 208) (bb := true) rfl rfl rfl (by simp [eval_put_ne, eval_put_eq, size_put, hts]) (by simp [size_put, hts])) (fun _ _ _ h => h) ?_
                  refine tkNS 16 212 hS0 rfl rfl (by kernel_rfl) (by kernel_rfl) (by kernel_rfl) (by kernel_rfl) (wanted_undef (j := 12) (d := 208) (bb := true) rfl rfl rfl (by simp [eval_put_ne, eval_put_eq, size_put, hts]) (by simp [size_put, hts])) (fun _ _ _ h => h) ?_
                  refine tkNS 17 213 hS0 rfl rfl (by kernel_rfl) (by kernel_rfl) (by kernel_rfl) (by kernel_rfl) (wanted_undef (j := 12) (d := 208) (bb := true) rfl rfl rfl (by simp [eval_put_ne, eval_put_eq, size_put, hts]) (by simp [size_put, hts])) (fun _ _ _ h => h) ?_
                  refine tkNS 18 214 hS0 rfl rfl (by kernel_rfl) (by kernel_rfl) (by kernel_rfl) (by kernel_rfl) (wanted_undef (j := 12) (d := 208) (bb := true) rfl rfl rfl (by simp [eval_put_ne, eval_put_eq, size_put, hts]) (by simp [size_put, hts])) (fun _ _ _ h => h) ?_
                  refine tkNS 19 215 hS0 rfl rfl (by kernel_rfl) (by kernel_rfl) (by kernel_rfl) (by kernel_rfl) (wanted_not (j := 9) (d := 205) (bb := false) rfl rfl rfl (by simp [eval_put_ne, eval_put_eq, size_put, hts]) (by simp [size_put, hts])) (fun _ _ _ h => h) ?_
                  refine tkNS 20 216 hS0 rfl rfl (by kernel_rfl) (by kernel_rfl) (by kernel_rfl) (by kernel_rfl) (wanted_not (j := 9) (d := 205) (bb := false) rfl rfl rfl (by simp [eval_put_ne, eval_put_eq, size_put, hts]) (by simp [size_put, hts])) (fun _ _ _ h => h) ?_
                  refine tkNS 21 217 hS0 rfl rfl (by kernel_rfl) (by kernel_rfl) (by kernel_rfl) (by kernel_rfl) (wanted_undef (j := 20) (d := 216) (bb := true) rfl rfl rfl (by simp [eval_put_ne, eval_put_eq, size_put, hts]) (by simp [size_put, hts])) (fun _ _ _ h => h) ?_
                  refine tkNS 22 218 hS0 rfl rfl (by kernel_rfl) (by kernel_rfl) (by kernel_rfl) (by kernel_rfl) (wanted_undef (j := 20) (d := 216) (bb := true) rfl rfl rfl (by simp [eval_put_ne, eval_put_eq, size_put, hts]) (by simp [size_put, hts])) (fun _ _ _ h => h) ?_
                  refine tkNS 23 219 hS0 rfl rfl (by kernel_rfl) (by kernel_rfl) (by kernel_rfl) (by kernel_rfl) (wanted_undef (j := 20) (d := 216) (bb := true) rfl rfl rfl (by simp [eval_put_ne, eval_put_eq, size_put, hts]) (by simp [size_put, hts])) (fun _ _ _ h => h) ?_
                  refine tkNS 24 220 hS0 rfl rfl (by kernel_rfl) (by kernel_rfl) (by kernel_rfl) (by kernel_rfl) (wanted_undef (j := 20) (d := 216) (bb := true) rfl rfl rfl (by simp [eval_put_ne, eval_put_eq, size_put, hts]) (by simp [size_put, hts])) (fun _ _ _ h => h) ?_
                  refine tkNS 25 221 hS0 rfl rfl (by kernel_rfl) (by kernel_rfl) (by kernel_rfl) (by kernel_rfl) (wanted_undef (j := 20) (d := 216) (bb := true) rfl rfl rfl (by simp [eval_put_ne, eval_put_eq, size_put, hts]) (by simp [size_put, hts])) (fun _ _ _ h => h) ?_
                  refine tkNS 26 222 hS0 rfl rfl (by kernel_rfl) (by kernel_rfl) (by kernel_rfl) (by kernel_rfl) (wanted_undef (j := 20) (d := 216) (bb := true) rfl rfl rfl (by simp [eval_put_ne, eval_put_eq, size_put, hts]) (by simp [size_put, hts])) (fun _ _ _ h => h) ?_
                  refine tkNS 27 223 hS0 rfl rfl (by kernel_rfl) (by kernel_rfl) (by kernel_rfl) (by kernel_rfl) (wanted_undef (j := 20) (d := 216) (bb := true) rfl rfl rfl (by simp [eval_put_ne, eval_put_eq, size_put, hts]) (by simp [size_put, hts])) (fun _ _ _ h => h) ?_
                  refine tkNS 28 224 hS0 rfl rfl (by kernel_rfl) (by kernel_rfl) (by kernel_rfl) (by kernel_rfl) (wanted_not (j := 9) (d := 205) (bb := false) rfl rfl rfl (by simp [eval_put_ne, eval_put_eq, size_put, hts]) (by simp [size_put, hts])) (fun _ _ _ h => h) ?_
                  refine tkS 29 225 (v := .bool true) hS0 rfl rfl (by kernel_rfl) (by kernel_rfl) (by kernel_rfl) (by kernel_rfl) (wanted_none rfl) (fun _ _ _ h => h) (fun U hU => r_pick (by simp [eval_put_ne, eval_put_eq, size_put, hts]) rfl) ?_
                  refine tkS 30 6 (v := .bool true) hS0 rfl rfl (by kernel_rfl) (by kernel_rfl) (by kernel_rfl) (by kernel_rfl) (wanted_none rfl) (fun _ _ _ h => h) (fun U hU => r_assign (by simp [eval_put_ne, eval_put_eq, size_put, hts])) ?_
                  refine doneS (by kernel_rfl) ?_
                  rw [hfr.out]
                  clear hfr e21 e22 e24 e25 hts
                  simp only [put_lit, put_none, List.set_cons_succ, List.set_cons_zero]
                  have HKZ := hide hkw
                  clear hS0 hheap hkw
                  go_wp2
                  go_ret
                  exact ⟨rfl, HK16.out.trans HKZ.out (fun _ _ h => h)⟩
        · have hkI2 : ¬ (kf : Int) = (i : Int) := by omega
          obtain ⟨w6, rfl⟩ : ∃ w6, w6 = wr := ⟨_, rfl⟩
          have HM : Hid (LoopK w w6 b db i (.slice sa sn sc) sure R pre l L W c pf lf (3 + 5 * i)) := hide ⟨HL.out.st, by have := HL.out.cb; omega, HL.out.wb, HL.out.ro, HL.out.rc, HL.out.rl, HL.out.new, HL.out.gr, HL.out.sure1, HL.out.sure2⟩
          clear HL
          go_wp2_with fail
          refine (crash_found HM.out.st kv ks HKp.out (rv_carr HM.out.ro) HM.out.gr HM.out.sure1 HM.out.sure2).mono ?_
          rintro e w7 ⟨rfl, hc7, L7, en7, C1, C2, hr7, hf7⟩
          have HC7 := hide hc7
          have HR7 := hide hr7
          have HF7 := hide hf7
          clear hc7 hr7 hf7
          go_wp2_with fail
          refine (commits1 HR7.out HF7.out HC7.out).mono ?_
          rintro e w8 ⟨⟨fa, fnn, fc⟩, R1, rfl, hfn, hc8, ho8, hm8, hr8⟩
          simp only at hfn ho8 ⊢
          have HFn := hide hfn
          have HO8 := hide ho8
          have HD8 := hide hc8.at
          have HM8 := hide hm8
          have HR8 := hide hr8
          obtain ⟨tt, htt⟩ := HF7.out.pre
          obtain ⟨hle, hsame⟩ := found_same hm8 (HM.out.rc.trans htt)
          have HSm := hide hsame
          have hf1 : sure ≤ fnn := by
            have h1 := HF7.out.sure
            rw [← hm8, List.length_map, ← hfn] at h1
            exact h1
          have hf2 : fnn ≤ sn := by rw [hfn, Hrn.out]; exact hle
          have Hf20 : Hid (fnn ≤ 20) := hide (by have := HM.out.rl; rw [← Hrn.out] at this; omega)
          have Hcb : Hid (c ≤ 1000) := hide (by have := HM.out.cb; omega)
          have Hf2 := hide hf2
          have h33a : ¬ (fnn : Int) < (sure : Int) := by omega
          have h33b : ¬ (sn : Int) < (fnn : Int) := by omega
          clear hfn hc8 ho8 hm8 hr8 htt hle hsame hf1 hf2 HC7 HR7
          go_wp2
          clear h33a h33b
          go_loopw [151] (fun jv wl => ∃ j : Nat, jv = .int .i64 j ∧ j ≤ fnn ∧ Hid (Kept (fun _ => False) w8 wl)) (fun jv _ => fnn - (intOf jv).toNat)
          case atStart => exact ⟨0, rfl, Nat.zero_le _, hide (Kept.refl _ _)⟩
          case round =>
            obtain ⟨j, rfl, hj, HKL⟩ := hrel
            by_cases hjl : j < fnn
            · have hjI : (j : Int) < (fnn : Int) := by omega
              have hj20 : j < 20 := by have := Hf20.out; omega
              have hjR1 : j < R1.length := by rw [← HFn.out]; exact hjl
              have hjR : j < R.length := by rw [← Hrn.out]; have := Hf2.out; omega
              obtain ⟨g1, G1, rfl, _, hb1, hl1, hm1, ha1⟩ := rv_at HO8.out hjR1
              obtain ⟨g2, G2, rfl, _, hb2, hl2, hm2, ha2⟩ := rv_at HD8.out hjR
              obtain ⟨y1, hy1⟩ : ∃ y1, y1 = R1[j] := ⟨_, rfl⟩
              obtain ⟨y2, hy2⟩ : ∃ y2, y2 = R[j] := ⟨_, rfl⟩
              have hs := HSm.out j hjR1 hjR
              rw [← hy1, ← hy2] at hs
              rw [← hy1] at hm1 ha1
              rw [← hy2] at hm2 ha2
              have H1 := hide (And.intro hb1 (And.intro hl1 (And.intro hm1 ha1)))
              have H2 := hide (And.intro hb2 (And.intro hl2 (And.intro hm2 ha2)))
              have HS := hide hs
              have Hjs : Hid (j < sn) := hide (by have := Hf2.out; omega)
              clear hb1 hl1 hm1 ha1 hb2 hl2 hm2 ha2 hs hy1 hy2 hjR1 hjR
              go_wp2_with fail
              refine region_tail 8 Try.mixed (by kernel_rfl) ?_
              intro w9 hk9 hz9
              have hk89 := HKL.out.trans hk9 (fun _ _ h => h)
              have HK89 := hide hk89
              simp only [List.take_succ_cons, List.take_zero, List.drop_succ_cons, List.drop_zero]
              still_step
              still_step
              refine wpStill_run rfl (r_idx34 j rfl rfl hjl) ?_
              refine wpStill_run rfl (r_ldRv y1 rfl (hk89.blk H1.out.1 (fun h => h)) H1.out.2.1 H1.out.2.2.1) ?_
              still_step
              still_step
              refine wpStill_run rfl (r_idx34 j rfl rfl Hjs.out) ?_
              refine wpStill_run rfl (r_ldRv y2 rfl (hk89.blk H2.out.1 (fun h => h)) H2.out.2.1 H2.out.2.2.1) ?_
              refine wpStill_nil ?_
              clear hk9 hz9 hk89
              simp only [put_lit, put_none, List.set_cons_succ, List.set_cons_zero]
              go_wp2_with fail
              refine (refsame_at w9 y1 y2 (H1.out.2.2.2.kept HK89.out) (H2.out.2.2.2.kept HK89.out) true HS.out).mono ?_
              rintro e w10 ⟨rfl, hk10⟩
              have HK10 := hide (HK89.out.trans hk10 (fun _ _ h => h))
              clear hk10 HK89
              go_wp2
              go_roundw
              case rel => exact ⟨j + 1, by simp, by omega, HK10⟩
              case measure => simp [intOf]; omega
            · obtain rfl : j = fnn := by omega
              have HRL := hide (HR8.out.same HKL.out)
              obtain ⟨q, hq⟩ : ∃ q, q = j + 1 := ⟨_, rfl⟩
              have hqw : IntKind.i64.wrap ((j : Int) + 1) = (q : Int) := by rw [IntKind.wrap_i64]; have := Hf20.out; omega
              have hqI : (j : Int) + 1 = (q : Int) := by omega
              have hj20 : j ≤ 20 := Hf20.out
              have Hq : Hid (1 ≤ q ∧ q ≤ 1000) := hide (by have := Hf20.out; omega)
              clear hq
              go_wp2_with (first
                | (with_reducible refine wpList_run rfl (r_build37K rfl rfl rfl) ?_)
                | ((with_reducible refine aw_alloc (dst := some 24) Hi37.out Hz37.out ?_); intro w11 hb11 hk11 hz11; have Hz11 := hide hz11; clear hz11)
                | ((with_reducible refine aw_store (x := .tmp 24) (M := [.int .i64 3, .int .i64 1, .int .i64 q, .slice none 0 0]) Try.agg37 rfl rfl rfl (by simp [Value.oneCell']) hb11 (by simp [Value.cells]) ?_); intro w12 hb12 hk12 hz12; have Hz12 := hide hz12; clear hz12)
                | fail)
              have HX12 : Hid (At37 wr.heap.size q w12) := hide (by rw [put_whole _ _ (by simp [Value.cells])] at hb12; exact hb12)
              have HR12 := hide (HRL.out.same (hk11.trans hk12 (fun i hi h => by omega)))
              obtain ⟨bx, hbx⟩ : ∃ bx, bx = wr.heap.size := ⟨_, rfl⟩
              rw [← hbx] at HX12 ⊢
              clear hj20 hb11 hk11 hb12 hk12 hbx hqw hqI Hz11 Hz12 HRL
              obtain ⟨en, hen⟩ : ∃ en, en = 9 * C1.length + itsN C2 := ⟨_, rfl⟩
              have Hen := hide hen
              have hc1 := HF7.out.fnd.cl
              rcases HF7.out.fnd.c2 with rfl | hs2
              · obtain ⟨a1, ha1⟩ : ∃ a1, a1 = C1.length := ⟨_, rfl⟩
                have hen0 : en = 9 * a1 := by rw [hen, ha1]; rfl
                have HenB : Hid (en ≤ 4611686018427387904) := hide (by omega)
                have Hmq : Hid (en % 9 = 0) := hide (by omega)
                have Hqa : Hid (en / 9 = a1) := hide (by omega)
                have HStart : Hid (∀ w0, Rg w w0 b 200 ⟨db, 0, 6, 9, 9 * C1.length + itsN []⟩ (devL L7 [] c) [] → At37 bx q w0 → Calls Try.prog 7 #[.pointer (some ⟨b, 0, none⟩), .int .i64 (a1 : Nat), .int .i64 2, .int .i64 1, .int .i64 (q : Nat)] w0 fun e w' => e = .returned (.int .i64 0) ∧ At37 bx q w' ∧ Rg w w' b 200 ⟨db, 0, 6, 9, 9 * C1.length + itsN [hdI 2 1 q]⟩ (devL L7 (putW (9 * C1.length) (itS ((9 * C1.length : Nat) : Int) (hdI 2 1 q))) (c + 1)) []) := hide (fun w0 h1 h2 => by
                  rw [ha1]
                  exact fnd_start HF7.out.fnd h1 Hcb.out Hq.out h2.carr)
                clear hen hen0 ha1 hc1
                go_wp2_with fail
                refine hold_frame (p := fun fr => Code.wp Try.prog _ _ fr _) ?_
                intro fr hfr
                have e9 : fr.eval (.tmp 9) = .pointer (some ⟨b, 0, none⟩) := by rw [hfr.out]; rfl
                have e24 : fr.eval (.tmp 24) = .pointer (some ⟨bx, 0, none⟩) := by rw [hfr.out]; rfl
                have hts : fr.tmps.size = 226 := by rw [hfr.out]; rfl
                refine region_S 99 (At37 bx q) Try.mixed ?_
                intro w0 hkw hheap
                have hr0 := HR12.out.same hkw
                have hS0 := HX12.out.kept hkw
                refine tkS 0 169 (v := .pointer (some ⟨b, 0, none⟩)) hS0 rfl rfl (by kernel_rfl) (by kernel_rfl) (by kernel_rfl) (by kernel_rfl) (wanted_none rfl) (fun _ _ _ h => h) (fun U hU => r_move (by simp [eval_put_ne, eval_put_eq, size_put, hts, e9])) ?_
                refine oneCS 1 170 (by kernel_rfl) rfl rfl (wanted_none rfl) (r_call1 Try.func13 (by kernel_rfl) rfl rfl (by simp [eval_put_ne, eval_put_eq, size_put, hts])) (rgend_at w0 b _ hr0.log) ?_
                rintro e v1 ⟨rfl, rfl⟩
                rw [← Hen.out]
                refine ⟨_, rfl, hS0, ?_⟩
                refine tkS 2 171 (v := .int .i64 (0 : Nat)) hS0 rfl rfl (by kernel_rfl) (by kernel_rfl) (by kernel_rfl) (by kernel_rfl) (wanted_none rfl) (fun _ _ _ h => h) (fun U hU => r_rgrem (i := en) (j := 9) (q := 0) (by simp [eval_put_ne, eval_put_eq, size_put, hts]) rfl (by decide) HenB.out Hmq.out) ?_
                refine tkS 3 172 (v := .bool true) hS0 rfl rfl (by kernel_rfl) (by kernel_rfl) (by kernel_rfl) (by kernel_rfl) (wanted_none rfl) (fun _ _ _ h => h) (fun U hU => r_rgeql (i := ((0 : Nat) : Int)) (j := 0) (by simp [eval_put_ne, eval_put_eq, size_put, hts]) rfl rfl) ?_
                refine tkS 4 173 (v := .bool true) hS0 rfl rfl (by kernel_rfl) (by kernel_rfl) (by kernel_rfl) (by kernel_rfl) (wanted_none rfl) (fun _ _ _ h => h) (fun U hU => r_move (by simp [eval_put_ne, eval_put_eq, size_put, hts])) ?_
                refine tkS 5 174 (v := .pointer (some ⟨b, 0, none⟩)) hS0 rfl rfl (by kernel_rfl) (by kernel_rfl) (by kernel_rfl) (by kernel_rfl) (wanted_some (j := 4) (d := 173) (bb := true) rfl rfl rfl (by simp [eval_put_ne, eval_put_eq, size_put, hts]) (by simp [size_put, hts])) (fun _ _ _ h => h) (fun U hU => r_move (by simp [eval_put_ne, eval_put_eq, size_put, hts, e9])) ?_
                refine tkS 6 175 (v := .pointer (some ⟨b, 0, none⟩)) hS0 rfl rfl (by kernel_rfl) (by kernel_rfl) (by kernel_rfl) (by kernel_rfl) (wanted_some (j := 4) (d := 173) (bb := true) rfl rfl rfl (by simp [eval_put_ne, eval_put_eq, size_put, hts]) (by simp [size_put, hts])) (fun _ _ _ h => h) (fun U hU => r_move (by simp [eval_put_ne, eval_put_eq, size_put, hts, e9])) ?_
                refine tkS 9 178 (v := .pointer (some ⟨bx, 2, none⟩)) hS0 rfl rfl (by kernel_rfl) (by kernel_rfl) (by kernel_rfl) (by kernel_rfl) (wanted_some (j := 4) (d := 173) (bb := true) rfl rfl rfl (by simp [eval_put_ne, eval_put_eq, size_put, hts]) (by simp [size_put, hts])) (fun _ _ _ h => h) (fun U hU => r_f37_2 (b := bx) (by simp [eval_put_ne, eval_put_eq, size_put, hts, e24])) ?_
                refine tkS 10 179 (v := .int .i64 (q : Nat)) hS0 rfl rfl (by kernel_rfl) (by kernel_rfl) (by kernel_rfl) (by kernel_rfl) (wanted_some (j := 4) (d := 173) (bb := true) rfl rfl rfl (by simp [eval_put_ne, eval_put_eq, size_put, hts]) (by simp [size_put, hts])) (fun _ _ _ h => h) (fun U hU => r_ld3 (b := bx) (o := 2) (by simp [eval_put_ne, eval_put_eq, size_put, hts]) (Blk.cell hU 2)) ?_
                refine oneCS 7 176 (by kernel_rfl) rfl rfl (wanted_some (j := 4) (d := 173) (bb := true) rfl rfl rfl (by simp [eval_put_ne, eval_put_eq, size_put, hts]) (by simp [size_put, hts])) (r_call1 Try.func13 (by kernel_rfl) rfl rfl (by simp [eval_put_ne, eval_put_eq, size_put, hts])) (rgend_at w0 b _ hr0.log) ?_
                rintro e v2 ⟨rfl, rfl⟩
                rw [← Hen.out]
                refine ⟨_, rfl, hS0, ?_⟩
                refine tkS 8 177 (v := .int .i64 (a1 : Nat)) hS0 rfl rfl (by kernel_rfl) (by kernel_rfl) (by kernel_rfl) (by kernel_rfl) (wanted_some (j := 4) (d := 173) (bb := true) rfl rfl rfl (by simp [eval_put_ne, eval_put_eq, size_put, hts]) (by simp [size_put, hts])) (fun _ _ _ h => h) (fun U hU => r_rgquo (i := en) (j := 9) (q := a1) (by simp [eval_put_ne, eval_put_eq, size_put, hts]) rfl (by decide) HenB.out Hqa.out) ?_
                refine oneCS 11 180 (by kernel_rfl) rfl rfl (wanted_some (j := 4) (d := 173) (bb := true) rfl rfl rfl (by simp [eval_put_ne, eval_put_eq, size_put, hts]) (by simp [size_put, hts])) (r_call5 Try.func7 (by kernel_rfl) rfl rfl (by simp [eval_put_ne, eval_put_eq, size_put, hts]) (by simp [eval_put_ne, eval_put_eq, size_put, hts]) rfl rfl (by simp [eval_put_ne, eval_put_eq, size_put, hts])) (HStart.out w0 hr0 (HX12.out.kept hkw)) ?_
                rintro e v3 ⟨rfl, hx13, hr13⟩
                refine ⟨_, rfl, hx13, ?_⟩
                refine tkS 12 181 (v := .bool false) hx13 rfl rfl (by kernel_rfl) (by kernel_rfl) (by kernel_rfl) (by kernel_rfl) (wanted_some (j := 4) (d := 173) (bb := true) rfl rfl rfl (by simp [eval_put_ne, eval_put_eq, size_put, hts]) (by simp [size_put, hts])) (fun _ _ _ h => h) (fun U hU => r_neqE (i := 0) (j := 0) (by simp [eval_put_ne, eval_put_eq, size_put, hts]) rfl rfl) ?_
                refine tkS 13 182 (v := .bool false) hx13 rfl rfl (by kernel_rfl) (by kernel_rfl) (by kernel_rfl) (by kernel_rfl) (wanted_none rfl) (fun _ _ _ h => h) (fun U hU => r_pick (by simp [eval_put_ne, eval_put_eq, size_put, hts]) (by simp [eval_put_ne, eval_put_eq, size_put, hts])) ?_
                refine doneS (by kernel_rfl) ?_
                rw [hfr.out]
                clear hfr e9 e24 hts
                simp only [put_lit, put_none, List.set_cons_succ, List.set_cons_zero]
                have HR13 := hide hr13
                have HX13 := hide hx13
                have HAdd := hide (fnd_addA HF7.out.fnd Hq.out Hcb.out hr13 hx13.carr)
                clear hr13 hx13 hr0 hS0 hkw hheap HStart
                have HB13 : Hid (Blk _ bx [.int .i64 3, .int .i64 1, .int .i64 (q : Nat), .slice none 0 0] 37) := hide HX13.out
                go_wp2_with (first
                  | (with_reducible refine aw_load (x := .tmp 24) (M := [.int .i64 3, .int .i64 1, .int .i64 (q : Nat), .slice none 0 0]) Try.agg37 rfl HB13.out (by simp) rfl ?_)
                  | fail)
                refine HAdd.out.mono ?_
                rintro e w14 ⟨pp, ec, rfl, hx14, hout⟩
                have HX14 := hide hx14
                have HOut := hide hout
                clear hx14 hout HAdd
                go_wp2_with fail
                refine (HOut.out.flush HF7.out.fnd.len HF7.out.fnd.l64 HF7.out.fnd.lt (by have := Hcb.out; omega) HX14.out.carr).mono ?_
                rintro e w15 ⟨rfl, hc15, hout2⟩
                have HC15 := hide hc15
                have HOut2 := hide hout2
                clear hc15 hout2 HOut
                go_wp2_with fail
                refine (HOut2.out.commits HC15.out).mono ?_
                rintro e w16 ⟨⟨ga, gn, gc⟩, R2, rfl, hgn, hc16, ho16, hm2, hk16⟩
                simp only at hgn ho16 ⊢
                have hx16 := hc16.at
                have HGn := hide hgn
                clear hc16 hgn
                go_wp2_with fail
                have hgn := HGn.out
                rcases hm2 with ⟨rfl, hm2⟩ | ⟨rfl, hm2⟩
                · obtain ⟨hl2, hs2⟩ := last_same HM8.out hm2
                  rw [← HFn.out] at hl2
                  rw [← hgn] at hl2
                  have hlt2 : R1.length < R2.length := by rw [← hgn, hl2, HFn.out]; omega
                  obtain ⟨y2, hy2⟩ : ∃ y2, y2 = R2[R1.length] := ⟨_, rfl⟩
                  obtain ⟨g2, G2, rfl, _, hb2, hl4, hm4, ha4⟩ := rv_at ho16 hlt2
                  have hs3 := hs2 hlt2
                  rw [← hy2] at hm4 ha4 hs3
                  rw [← HFn.out] at hl4 hm4
                  have HG2 := hide (And.intro hb2 (And.intro hl4 (And.intro hm4 (And.intro ha4 hs3))))
                  have HLen : Hid (decide ((gn : Int) = ((j + 1 : Nat) : Int)) = true) := hide (by rw [decide_eq_true_eq]; omega)
                  have HLt : Hid (j < gn) := hide (by omega)
                  have HXg := hide hx16
                  have HK16 := hide hk16
                  clear hb2 hl4 hm4 ha4 hs3 hy2 hlt2 hs2 hm2 hl2 ho16 hx16 hk16 hgn
                  refine hold_frame (p := fun fr => Code.wp Try.prog _ _ fr _) ?_
                  intro fr hfr
                  have e21 : fr.eval (.tmp 21) = .slice fa j fc := by rw [hfr.out]; rfl
                  have e22 : fr.eval (.tmp 22) = .int .i64 0 := by rw [hfr.out]; rfl
                  have e24 : fr.eval (.tmp 24) = .pointer (some ⟨bx, 0, none⟩) := by rw [hfr.out]; rfl
                  have e25 : fr.eval (.tmp 25) = .slice (some ⟨g2, 0, none⟩) gn gc := by rw [hfr.out]; rfl
                  have hts : fr.tmps.size = 226 := by rw [hfr.out]; rfl
                  refine region_S0 99 Try.mixed ?_
                  intro w0 hkw hheap
                  have hS0 : Kept (fun _ => False) w0 w0 := Kept.refl (fun _ => False) w0
                  refine ⟨Kept (fun _ => False) w0, ?_⟩
                  refine tkS 0 196 (v := .int .i64 0) hS0 rfl rfl (by kernel_rfl) (by kernel_rfl) (by kernel_rfl) (by kernel_rfl) (wanted_none rfl) (fun _ _ _ h => h) (fun U hU => r_move (by simp [eval_put_ne, eval_put_eq, size_put, hts, e22])) ?_
                  refine tkS 1 197 (v := .bool false) hS0 rfl rfl (by kernel_rfl) (by kernel_rfl) (by kernel_rfl) (by kernel_rfl) (wanted_none rfl) (fun _ _ _ h => h) (fun U hU => r_eqlE (i := 0) (j := 30) (by simp [eval_put_ne, eval_put_eq, size_put, hts]) rfl rfl) ?_
                  refine tkS 2 198 (v := .bool false) hS0 rfl rfl (by kernel_rfl) (by kernel_rfl) (by kernel_rfl) (by kernel_rfl) (wanted_none rfl) (fun _ _ _ h => h) (fun U hU => r_move (by simp [eval_put_ne, eval_put_eq, size_put, hts])) ?_
                  refine tkNS 3 199 hS0 rfl rfl (by kernel_rfl) (by kernel_rfl) (by kernel_rfl) (by kernel_rfl) (wanted_not (j := 2) (d := 198) (bb := true) rfl rfl rfl (by simp [eval_put_ne, eval_put_eq, size_put, hts]) (by simp [size_put, hts])) (fun _ _ _ h => h) ?_
                  refine tkNS 4 200 hS0 rfl rfl (by kernel_rfl) (by kernel_rfl) (by kernel_rfl) (by kernel_rfl) (wanted_not (j := 2) (d := 198) (bb := true) rfl rfl rfl (by simp [eval_put_ne, eval_put_eq, size_put, hts]) (by simp [size_put, hts])) (fun _ _ _ h => h) ?_
                  refine tkNS 5 201 hS0 rfl rfl (by kernel_rfl) (by kernel_rfl) (by kernel_rfl) (by kernel_rfl) (wanted_not (j := 2) (d := 198) (bb := true) rfl rfl rfl (by simp [eval_put_ne, eval_put_eq, size_put, hts]) (by simp [size_put, hts])) (fun _ _ _ h => h) ?_
                  refine tkNS 6 202 hS0 rfl rfl (by kernel_rfl) (by kernel_rfl) (by kernel_rfl) (by kernel_rfl) (wanted_not (j := 2) (d := 198) (bb := true) rfl rfl rfl (by simp [eval_put_ne, eval_put_eq, size_put, hts]) (by simp [size_put, hts])) (fun _ _ _ h => h) ?_
                  refine tkNS 7 203 hS0 rfl rfl (by kernel_rfl) (by kernel_rfl) (by kernel_rfl) (by kernel_rfl) (wanted_not (j := 2) (d := 198) (bb := true) rfl rfl rfl (by simp [eval_put_ne, eval_put_eq, size_put, hts]) (by simp [size_put, hts])) (fun _ _ _ h => h) ?_
                  refine tkS 8 204 (v := .bool false) hS0 rfl rfl (by kernel_rfl) (by kernel_rfl) (by kernel_rfl) (by kernel_rfl) (wanted_none rfl) (fun _ _ _ h => h) (fun U hU => r_pickF (by simp [eval_put_ne, eval_put_eq, size_put, hts]) rfl) ?_
                  refine tkS 9 205 (v := .bool false) hS0 rfl rfl (by kernel_rfl) (by kernel_rfl) (by kernel_rfl) (by kernel_rfl) (wanted_none rfl) (fun _ _ _ h => h) (fun U hU => r_move (by simp [eval_put_ne, eval_put_eq, size_put, hts])) ?_
                  refine tkS 10 206 (v := .int .i64 0) hS0 rfl rfl (by kernel_rfl) (by kernel_rfl) (by kernel_rfl) (by kernel_rfl) (wanted_some (j := 9) (d := 205) (bb := false) rfl rfl rfl (by simp [eval_put_ne, eval_put_eq, size_put, hts]) (by simp [size_put, hts])) (fun _ _ _ h => h) (fun U hU => r_move (by simp [eval_put_ne, eval_put_eq, size_put, hts, e22])) ?_
                  refine tkS 11 207 (v := .bool true) hS0 rfl rfl (by kernel_rfl) (by kernel_rfl) (by kernel_rfl) (by kernel_rfl) (wanted_some (j := 9) (d := 205) (bb := false) rfl rfl rfl (by simp [eval_put_ne, eval_put_eq, size_put, hts]) (by simp [size_put, hts])) (fun _ _ _ h => h) (fun U hU => r_eqlE (i := 0) (j := 0) (by simp [eval_put_ne, eval_put_eq, size_put, hts]) rfl rfl) ?_
                  refine tkS 12 208 (v := .bool true) hS0 rfl rfl (by kernel_rfl) (by kernel_rfl) (by kernel_rfl) (by kernel_rfl) (wanted_some (j := 9) (d := 205) (bb := false) rfl rfl rfl (by simp [eval_put_ne, eval_put_eq, size_put, hts]) (by simp [size_put, hts])) (fun _ _ _ h => h) (fun U hU => r_move (by simp [eval_put_ne, eval_put_eq, size_put, hts])) ?_
                  refine tkS 13 209 (v := .slice (some ⟨g2, 0, none⟩) gn gc) hS0 rfl rfl (by kernel_rfl) (by kernel_rfl) (by kernel_rfl) (by kernel_rfl) (wanted_some (j := 12) (d := 208) (bb := true) rfl rfl rfl (by simp [eval_put_ne, eval_put_eq, size_put, hts]) (by simp [size_put, hts])) (fun _ _ _ h => h) (fun U hU => r_move (by simp [eval_put_ne, eval_put_eq, size_put, hts, e25])) ?_
                  refine tkS 14 210 (v := .int .i64 (gn : Nat)) hS0 rfl rfl (by kernel_rfl) (by kernel_rfl) (by kernel_rfl) (by kernel_rfl) (wanted_some (j := 12) (d := 208) (bb := true) rfl rfl rfl (by simp [eval_put_ne, eval_put_eq, size_put, hts]) (by simp [size_put, hts])) (fun _ _ _ h => h) (fun U hU => r_len34 (ao := some ⟨g2, 0, none⟩) (l := gn) (c := gc) (by simp [eval_put_ne, eval_put_eq, size_put, hts])) ?_
                  refine tkS 15 211 (v := .slice fa j fc) hS0 rfl rfl (by kernel_rfl) (by kernel_rfl) (by kernel_rfl) (by kernel_rfl) (wanted_some (j := 12) (d := 208) (bb := true) rfl rfl rfl (by simp [eval_put_ne, eval_put_eq, size_put, hts]) (by simp [size_put, hts])) (fun _ _ _ h => h) (fun U hU => r_move (by simp [eval_put_ne, eval_put_eq, size_put, hts, e21])) ?_
                  refine tkS 16 212 (v := .int .i64 (j : Nat)) hS0 rfl rfl (by kernel_rfl) (by kernel_rfl) (by kernel_rfl) (by kernel_rfl) (wanted_some (j := 12) (d := 208) (bb := true) rfl rfl rfl (by simp [eval_put_ne, eval_put_eq, size_put, hts]) (by simp [size_put, hts])) (fun _ _ _ h => h) (fun U hU => r_len34 (ao := fa) (l := j) (c := fc) (by simp [eval_put_ne, eval_put_eq, size_put, hts])) ?_
                  refine tkS 17 213 (v := .int .i64 ((j + 1 : Nat) : Int)) hS0 rfl rfl (by kernel_rfl) (by kernel_rfl) (by kernel_rfl) (by kernel_rfl) (wanted_some (j := 12) (d := 208) (bb := true) rfl rfl rfl (by simp [eval_put_ne, eval_put_eq, size_put, hts]) (by simp [size_put, hts])) (fun _ _ _ h => h) (fun U hU => r_rgadd (i := j) (j := 1) (by simp [eval_put_ne, eval_put_eq, size_put, hts]) rfl (by have := Hf20.out; omega)) ?_
                  refine tkS 18 214 (v := .bool true) hS0 rfl rfl (by kernel_rfl) (by kernel_rfl) (by kernel_rfl) (by kernel_rfl) (wanted_some (j := 12) (d := 208) (bb := true) rfl rfl rfl (by simp [eval_put_ne, eval_put_eq, size_put, hts]) (by simp [size_put, hts])) (fun _ _ _ h => h) (fun U hU => r_rgeql (i := (gn : Int)) (j := ((j + 1 : Nat) : Int)) (by simp [eval_put_ne, eval_put_eq, size_put, hts]) (by simp [eval_put_ne, eval_put_eq, size_put, hts]) HLen.out) ?_
                  refine tkS 19 215 (v := .bool true) hS0 rfl rfl (by kernel_rfl) (by kernel_rfl) (by kernel_rfl) (by kernel_rfl) (wanted_some (j := 9) (d := 205) (bb := false) rfl rfl rfl (by simp [eval_put_ne, eval_put_eq, size_put, hts]) (by simp [size_put, hts])) (fun _ _ _ h => h) (fun U hU => r_pick (by simp [eval_put_ne, eval_put_eq, size_put, hts]) (by simp [eval_put_ne, eval_put_eq, size_put, hts])) ?_
                  refine tkS 20 216 (v := .bool true) hS0 rfl rfl (by kernel_rfl) (by kernel_rfl) (by kernel_rfl) (by kernel_rfl) (wanted_some (j := 9) (d := 205) (bb := false) rfl rfl rfl (by simp [eval_put_ne, eval_put_eq, size_put, hts]) (by simp [size_put, hts])) (fun _ _ _ h => h) (fun U hU => r_move (by simp [eval_put_ne, eval_put_eq, size_put, hts])) ?_
                  refine tkS 21 217 (v := .slice (some ⟨g2, 0, none⟩) gn gc) hS0 rfl rfl (by kernel_rfl) (by kernel_rfl) (by kernel_rfl) (by kernel_rfl) (wanted_some (j := 20) (d := 216) (bb := true) rfl rfl rfl (by simp [eval_put_ne, eval_put_eq, size_put, hts]) (by simp [size_put, hts])) (fun _ _ _ h => h) (fun U hU => r_move (by simp [eval_put_ne, eval_put_eq, size_put, hts, e25])) ?_
                  refine tkS 22 218 (v := .slice fa j fc) hS0 rfl rfl (by kernel_rfl) (by kernel_rfl) (by kernel_rfl) (by kernel_rfl) (wanted_some (j := 20) (d := 216) (bb := true) rfl rfl rfl (by simp [eval_put_ne, eval_put_eq, size_put, hts]) (by simp [size_put, hts])) (fun _ _ _ h => h) (fun U hU => r_move (by simp [eval_put_ne, eval_put_eq, size_put, hts, e21])) ?_
                  refine tkS 23 219 (v := .int .i64 (j : Nat)) hS0 rfl rfl (by kernel_rfl) (by kernel_rfl) (by kernel_rfl) (by kernel_rfl) (wanted_some (j := 20) (d := 216) (bb := true) rfl rfl rfl (by simp [eval_put_ne, eval_put_eq, size_put, hts]) (by simp [size_put, hts])) (fun _ _ _ h => h) (fun U hU => r_len34 (ao := fa) (l := j) (c := fc) (by simp [eval_put_ne, eval_put_eq, size_put, hts])) ?_
                  refine tkS 24 220 (v := .pointer (some ⟨g2, j * 4, none⟩)) hS0 rfl rfl (by kernel_rfl) (by kernel_rfl) (by kernel_rfl) (by kernel_rfl) (wanted_some (j := 20) (d := 216) (bb := true) rfl rfl rfl (by simp [eval_put_ne, eval_put_eq, size_put, hts]) (by simp [size_put, hts])) (fun _ _ _ h => h) (fun U hU => r_idx34 (b := g2) (len := gn) (cap := gc) j (by simp [eval_put_ne, eval_put_eq, size_put, hts]) (by simp [eval_put_ne, eval_put_eq, size_put, hts]) HLt.out) ?_
                  refine tkS 25 221 (v := y2.agg) hS0 rfl rfl (by kernel_rfl) (by kernel_rfl) (by kernel_rfl) (by kernel_rfl) (wanted_some (j := 20) (d := 216) (bb := true) rfl rfl rfl (by simp [eval_put_ne, eval_put_eq, size_put, hts]) (by simp [size_put, hts])) (fun _ _ _ h => h) (fun U hU => r_ldRv (b := g2) (k := j * 4) y2 (by simp [eval_put_ne, eval_put_eq, size_put, hts]) ((hkw.trans hU (fun _ _ h => h)).blk HG2.out.1 (fun h => h)) HG2.out.2.1 HG2.out.2.2.1) ?_
                  refine tkS 26 222 (v := (rvK0 q).agg) hS0 rfl rfl (by kernel_rfl) (by kernel_rfl) (by kernel_rfl) (by kernel_rfl) (wanted_some (j := 20) (d := 216) (bb := true) rfl rfl rfl (by simp [eval_put_ne, eval_put_eq, size_put, hts]) (by simp [size_put, hts])) (fun _ _ _ h => h) (fun U hU => r_ldRv (b := bx) (k := 0) (rvK0 q) (by simp [eval_put_ne, eval_put_eq, size_put, hts, e24]) (HXg.out.kept (hkw.trans hU (fun _ _ h => h))) (by simp) rfl) ?_
                  refine oneCS 27 223 (by kernel_rfl) rfl rfl (wanted_some (j := 20) (d := 216) (bb := true) rfl rfl rfl (by simp [eval_put_ne, eval_put_eq, size_put, hts]) (by simp [size_put, hts])) (r_call2 Try.func12 (by kernel_rfl) rfl rfl (by simp [eval_put_ne, eval_put_eq, size_put, hts]) (by simp [eval_put_ne, eval_put_eq, size_put, hts])) (refsame_at w0 y2 (rvK0 q) (HG2.out.2.2.2.1.kept hkw) (rvK0_at _ _) true HG2.out.2.2.2.2) ?_
                  rintro e v1 ⟨rfl, k1⟩
                  refine ⟨_, rfl, k1, ?_⟩
                  refine tkS 28 224 (v := .bool true) k1 rfl rfl (by kernel_rfl) (by kernel_rfl) (by kernel_rfl) (by kernel_rfl) (wanted_some (j := 9) (d := 205) (bb := false) rfl rfl rfl (by simp [eval_put_ne, eval_put_eq, size_put, hts]) (by simp [size_put, hts])) (fun _ _ _ h => h) (fun U hU => r_pick (by simp [eval_put_ne, eval_put_eq, size_put, hts]) (by simp [eval_put_ne, eval_put_eq, size_put, hts])) ?_
                  refine tkS 29 225 (v := .bool true) k1 rfl rfl (by kernel_rfl) (by kernel_rfl) (by kernel_rfl) (by kernel_rfl) (wanted_none rfl) (fun _ _ _ h => h) (fun U hU => r_pickF (by simp [eval_put_ne, eval_put_eq, size_put, hts]) (by simp [eval_put_ne, eval_put_eq, size_put, hts])) ?_
                  refine tkS 30 6 (v := .bool true) k1 rfl rfl (by kernel_rfl) (by kernel_rfl) (by kernel_rfl) (by kernel_rfl) (wanted_none rfl) (fun _ _ _ h => h) (fun U hU => r_assign (by simp [eval_put_ne, eval_put_eq, size_put, hts])) ?_
                  refine doneS (by kernel_rfl) ?_
                  rw [hfr.out]
                  clear hfr e21 e22 e24 e25 hts
                  simp only [put_lit, put_none, List.set_cons_succ, List.set_cons_zero]
                  have HKZ := hide (hkw.trans k1 (fun _ _ h => h))
                  clear hS0 k1 hheap hkw
                  go_wp2
                  go_ret
                  exact ⟨rfl, HK16.out.trans HKZ.out (fun _ _ h => h)⟩
                · have hl2 : gn = j := by
                    have := congrArg List.length hm2
                    rw [← HM8.out] at this
                    simp only [List.length_map] at this
                    rw [hgn, this, HFn.out]
                  have HLen : Hid (decide ((gn : Int) = (j : Int)) = true) := hide (by rw [decide_eq_true_eq]; omega)
                  have HK16 := hide hk16
                  clear hm2 hl2 ho16 hx16 hk16 hgn
                  refine hold_frame (p := fun fr => Code.wp Try.prog _ _ fr _) ?_
                  intro fr hfr
                  have e21 : fr.eval (.tmp 21) = .slice fa j fc := by rw [hfr.out]; rfl
                  have e22 : fr.eval (.tmp 22) = .int .i64 30 := by rw [hfr.out]; rfl
                  have e24 : fr.eval (.tmp 24) = .pointer (some ⟨bx, 0, none⟩) := by rw [hfr.out]; rfl
                  have e25 : fr.eval (.tmp 25) = .slice ga gn gc := by rw [hfr.out]; rfl
                  have hts : fr.tmps.size = 226 := by rw [hfr.out]; rfl
                  refine region_S0 99 Try.mixed ?_
                  intro w0 hkw hheap
                  have hS0 : Kept (fun _ => False) w0 w0 := Kept.refl (fun _ => False) w0
                  refine ⟨Kept (fun _ => False) w0, ?_⟩
                  refine tkS 0 196 (v := .int .i64 30) hS0 rfl rfl (by kernel_rfl) (by kernel_rfl) (by kernel_rfl) (by kernel_rfl) (wanted_none rfl) (fun _ _ _ h => h) (fun U hU => r_move (by simp [eval_put_ne, eval_put_eq, size_put, hts, e22])) ?_
                  refine tkS 1 197 (v := .bool true) hS0 rfl rfl (by kernel_rfl) (by kernel_rfl) (by kernel_rfl) (by kernel_rfl) (wanted_none rfl) (fun _ _ _ h => h) (fun U hU => r_eqlE (i := 30) (j := 30) (by simp [eval_put_ne, eval_put_eq, size_put, hts]) rfl rfl) ?_
                  refine tkS 2 198 (v := .bool true) hS0 rfl rfl (by kernel_rfl) (by kernel_rfl) (by kernel_rfl) (by kernel_rfl) (wanted_none rfl) (fun _ _ _ h => h) (fun U hU => r_move (by simp [eval_put_ne, eval_put_eq, size_put, hts])) ?_
                  refine tkS 3 199 (v := .slice ga gn gc) hS0 rfl rfl (by kernel_rfl) (by kernel_rfl) (by kernel_rfl) (by kernel_rfl) (wanted_some (j := 2) (d := 198) (bb := true) rfl rfl rfl (by simp [eval_put_ne, eval_put_eq, size_put, hts]) (by simp [size_put, hts])) (fun _ _ _ h => h) (fun U hU => r_move (by simp [eval_put_ne, eval_put_eq, size_put, hts, e25])) ?_
                  refine tkS 4 200 (v := .int .i64 (gn : Nat)) hS0 rfl rfl (by kernel_rfl) (by kernel_rfl) (by kernel_rfl) (by kernel_rfl) (wanted_some (j := 2) (d := 198) (bb := true) rfl rfl rfl (by simp [eval_put_ne, eval_put_eq, size_put, hts]) (by simp [size_put, hts])) (fun _ _ _ h => h) (fun U hU => r_len34 (ao := ga) (l := gn) (c := gc) (by simp [eval_put_ne, eval_put_eq, size_put, hts])) ?_
                  refine tkS 5 201 (v := .slice fa j fc) hS0 rfl rfl (by kernel_rfl) (by kernel_rfl) (by kernel_rfl) (by kernel_rfl) (wanted_some (j := 2) (d := 198) (bb := true) rfl rfl rfl (by simp [eval_put_ne, eval_put_eq, size_put, hts]) (by simp [size_put, hts])) (fun _ _ _ h => h) (fun U hU => r_move (by simp [eval_put_ne, eval_put_eq, size_put, hts, e21])) ?_
                  refine tkS 6 202 (v := .int .i64 (j : Nat)) hS0 rfl rfl (by kernel_rfl) (by kernel_rfl) (by kernel_rfl) (by kernel_rfl) (wanted_some (j := 2) (d := 198) (bb := true) rfl rfl rfl (by simp [eval_put_ne, eval_put_eq, size_put, hts]) (by simp [size_put, hts])) (fun _ _ _ h => h) (fun U hU => r_len34 (ao := fa) (l := j) (c := fc) (by simp [eval_put_ne, eval_put_eq, size_put, hts])) ?_
                  refine tkS 7 203 (v := .bool true) hS0 rfl rfl (by kernel_rfl) (by kernel_rfl) (by kernel_rfl) (by kernel_rfl) (wanted_some (j := 2) (d := 198) (bb := true) rfl rfl rfl (by simp [eval_put_ne, eval_put_eq, size_put, hts]) (by simp [size_put, hts])) (fun _ _ _ h => h) (fun U hU => r_rgeql (i := (gn : Int)) (j := (j : Int)) (by simp [eval_put_ne, eval_put_eq, size_put, hts]) (by simp [eval_put_ne, eval_put_eq, size_put, hts]) HLen.out) ?_
                  refine tkS 8 204 (v := .bool true) hS0 rfl rfl (by kernel_rfl) (by kernel_rfl) (by kernel_rfl) (by kernel_rfl) (wanted_none rfl) (fun _ _ _ h => h) (fun U hU => r_pick (by simp [eval_put_ne, eval_put_eq, size_put, hts]) (by simp [eval_put_ne, eval_put_eq, size_put, hts])) ?_
                  refine tkS 9 205 (v := .bool true) hS0 rfl rfl (by kernel_rfl) (by kernel_rfl) (by kernel_rfl) (by kernel_rfl) (wanted_none rfl) (fun _ _ _ h => h) (fun U hU => r_move (by simp [eval_put_ne, eval_put_eq, size_put, hts])) ?_
                  refine tkNS 10 206 hS0 rfl rfl (by kernel_rfl) (by kernel_rfl) (by kernel_rfl) (by kernel_rfl) (wanted_not (j := 9) (d := 205) (bb := false) rfl rfl rfl (by simp [eval_put_ne, eval_put_eq, size_put, hts]) (by simp [size_put, hts])) (fun _ _ _ h => h) ?_
                  refine tkNS 11 207 hS0 rfl rfl (by kernel_rfl) (by kernel_rfl) (by kernel_rfl) (by kernel_rfl) (wanted_not (j := 9) (d := 205) (bb := false) rfl rfl rfl (by simp [eval_put_ne, eval_put_eq, size_put, hts]) (by simp [size_put, hts])) (fun _ _ _ h => h) ?_
                  refine tkNS 12 208 hS0 rfl rfl (by kernel_rfl) (by kernel_rfl) (by kernel_rfl) (by kernel_rfl) (wanted_not (j := 9) (d := 205) (bb := false) rfl rfl rfl (by simp [eval_put_ne, eval_put_eq, size_put, hts]) (by simp [size_put, hts])) (fun _ _ _ h => h) ?_
                  refine tkNS 13 209 hS0 rfl rfl (by kernel_rfl) (by kernel_rfl) (by kernel_rfl) (by kernel_rfl) (wanted_undef (j := 12) (d := 208) (bb := true) rfl rfl rfl (by simp [eval_put_ne, eval_put_eq, size_put, hts]) (by simp [size_put, hts])) (fun _ _ _ h => h) ?_
                  refine tkNS 14 210 hS0 rfl rfl (by kernel_rfl) (by kernel_rfl) (by kernel_rfl) (by kernel_rfl) (wanted_undef (j := 12) (d := 208) (bb := true) rfl rfl rfl (by simp [eval_put_ne, eval_put_eq, size_put, hts]) (by simp [size_put, hts])) (fun _ _ _ h => h) ?_
                  refine tkNS 15 211 hS0 rfl rfl (by kernel_rfl) (by kernel_rfl) (by kernel_rfl) (by kernel_rfl) (wanted_undef (j := 12) (d := 208) (bb := true) rfl rfl rfl (by simp [eval_put_ne, eval_put_eq, size_put, hts]) (by simp [size_put, hts])) (fun _ _ _ h => h) ?_
                  refine tkNS 16 212 hS0 rfl rfl (by kernel_rfl) (by kernel_rfl) (by kernel_rfl) (by kernel_rfl) (wanted_undef (j := 12) (d := 208) (bb := true) rfl rfl rfl (by simp [eval_put_ne, eval_put_eq, size_put, hts]) (by simp [size_put, hts])) (fun _ _ _ h => h) ?_
                  refine tkNS 17 213 hS0 rfl rfl (by kernel_rfl) (by kernel_rfl) (by kernel_rfl) (by kernel_rfl) (wanted_undef (j := 12) (d := 208) (bb := true) rfl rfl rfl (by simp [eval_put_ne, eval_put_eq, size_put, hts]) (by simp [size_put, hts])) (fun _ _ _ h => h) ?_
                  refine tkNS 18 214 hS0 rfl rfl (by kernel_rfl) (by kernel_rfl) (by kernel_rfl) (by kernel_rfl) (wanted_undef (j := 12) (d := 208) (bb := true) rfl rfl rfl (by simp [eval_put_ne, eval_put_eq, size_put, hts]) (by simp [size_put, hts])) (fun _ _ _ h => h) ?_
                  refine tkNS 19 215 hS0 rfl rfl (by kernel_rfl) (by kernel_rfl) (by kernel_rfl) (by kernel_rfl) (wanted_not (j := 9) (d := 205) (bb := false) rfl rfl rfl (by simp [eval_put_ne, eval_put_eq, size_put, hts]) (by simp [size_put, hts])) (fun _ _ _ h => h) ?_
                  refine tkNS 20 216 hS0 rfl rfl (by kernel_rfl) (by kernel_rfl) (by kernel_rfl) (by kernel_rfl) (wanted_not (j := 9) (d := 205) (bb := false) rfl rfl rfl (by simp [eval_put_ne, eval_put_eq, size_put, hts]) (by simp [size_put, hts])) (fun _ _ _ h => h) ?_
                  refine tkNS 21 217 hS0 rfl rfl (by kernel_rfl) (by kernel_rfl) (by kernel_rfl) (by kernel_rfl) (wanted_undef (j := 20) (d := 216) (bb := true) rfl rfl rfl (by simp [eval_put_ne, eval_put_eq, size_put, hts]) (by simp [size_put, hts])) (fun _ _ _ h => h) ?_
                  refine tkNS 22 218 hS0 rfl rfl (by kernel_rfl) (by kernel_rfl) (by kernel_rfl) (by kernel_rfl) (wanted_undef (j := 20) (d := 216) (bb := true) rfl rfl rfl (by simp [eval_put_ne, eval_put_eq, size_put, hts]) (by simp [size_put, hts])) (fun _ _ _ h => h) ?_
                  refine tkNS 23 219 hS0 rfl rfl (by kernel_rfl) (by kernel_rfl) (by kernel_rfl) (by kernel_rfl) (wanted_undef (j := 20) (d := 216) (bb := true) rfl rfl rfl (by simp [eval_put_ne, eval_put_eq, size_put, hts]) (by simp [size_put, hts])) (fun _ _ _ h => h) ?_
                  refine tkNS 24 220 hS0 rfl rfl (by kernel_rfl) (by kernel_rfl) (by kernel_rfl) (by kernel_rfl) (wanted_undef (j := 20) (d := 216) (bb := true) rfl rfl rfl (by simp [eval_put_ne, eval_put_eq, size_put, hts]) (by simp [size_put, hts])) (fun _ _ _ h => h) ?_
                  refine tkNS 25 221 hS0 rfl rfl (by kernel_rfl) (by kernel_rfl) (by kernel_rfl) (by kernel_rfl) (wanted_undef (j := 20) (d := 216) (bb := true) rfl rfl rfl (by simp [eval_put_ne, eval_put_eq, size_put, hts]) (by simp [size_put, hts])) (fun _ _ _ h => h) ?_
                  refine tkNS 26 222 hS0 rfl rfl (by kernel_rfl) (by kernel_rfl) (by kernel_rfl) (by kernel_rfl) (wanted_undef (j := 20) (d := 216) (bb := true) rfl rfl rfl (by simp [eval_put_ne, eval_put_eq, size_put, hts]) (by simp [size_put, hts])) (fun _ _ _ h => h) ?_
                  refine tkNS 27 223 hS0 rfl rfl (by kernel_rfl) (by kernel_rfl) (by kernel_rfl) (by kernel_rfl) (wanted_undef (j := 20) (d := 216) (bb := true) rfl rfl rfl (by simp [eval_put_ne, eval_put_eq, size_put, hts]) (by simp [size_put, hts])) (fun _ _ _ h => h) ?_
                  refine tkNS 28 224 hS0 rfl rfl (by kernel_rfl) (by kernel_rfl) (by kernel_rfl) (by kernel_rfl) (wanted_not (j := 9) (d := 205) (bb := false) rfl rfl rfl (by simp [eval_put_ne, eval_put_eq, size_put, hts]) (by simp [size_put, hts])) (fun _ _ _ h => h) ?_
                  refine tkS 29 225 (v := .bool true) hS0 rfl rfl (by kernel_rfl) (by kernel_rfl) (by kernel_rfl) (by kernel_rfl) (wanted_none rfl) (fun _ _ _ h => h) (fun U hU => r_pick (by simp [eval_put_ne, eval_put_eq, size_put, hts]) rfl) ?_
                  refine tkS 30 6 (v := .bool true) hS0 rfl rfl (by kernel_rfl) (by kernel_rfl) (by kernel_rfl) (by kernel_rfl) (wanted_none rfl) (fun _ _ _ h => h) (fun U hU => r_assign (by simp [eval_put_ne, eval_put_eq, size_put, hts])) ?_
                  refine doneS (by kernel_rfl) ?_
                  rw [hfr.out]
                  clear hfr e21 e22 e24 e25 hts
                  simp only [put_lit, put_none, List.set_cons_succ, List.set_cons_zero]
                  have HKZ := hide hkw
                  clear hS0 hheap hkw
                  go_wp2
                  go_ret
                  exact ⟨rfl, HK16.out.trans HKZ.out (fun _ _ h => h)⟩
              · obtain ⟨mq, hmq⟩ : ∃ mq, en % 9 = mq := ⟨_, rfl⟩
                have hp := hs2.pos
                have hlt2 := hs2.lt
                have HenB : Hid (en ≤ 4611686018427387904) := hide (by omega)
                have Hmq2 : Hid (decide ((mq : Int) = 0) = false) := hide (by rw [decide_eq_false_iff_not]; omega)
                have Hmq := hide hmq
                have HS2 := hide hs2
                clear hmq hp hlt2 hen hc1 hs2
                go_wp2_with fail
                refine hold_frame (p := fun fr => Code.wp Try.prog _ _ fr _) ?_
                intro fr hfr
                have e9 : fr.eval (.tmp 9) = .pointer (some ⟨b, 0, none⟩) := by rw [hfr.out]; rfl
                have e24 : fr.eval (.tmp 24) = .pointer (some ⟨bx, 0, none⟩) := by rw [hfr.out]; rfl
                have hts : fr.tmps.size = 226 := by rw [hfr.out]; rfl
                refine region_S 99 (At37 bx q) Try.mixed ?_
                intro w0 hkw hheap
                have hr0 := HR12.out.same hkw
                have hS0 := HX12.out.kept hkw
                refine tkS 0 169 (v := .pointer (some ⟨b, 0, none⟩)) hS0 rfl rfl (by kernel_rfl) (by kernel_rfl) (by kernel_rfl) (by kernel_rfl) (wanted_none rfl) (fun _ _ _ h => h) (fun U hU => r_move (by simp [eval_put_ne, eval_put_eq, size_put, hts, e9])) ?_
                refine oneCS 1 170 (by kernel_rfl) rfl rfl (wanted_none rfl) (r_call1 Try.func13 (by kernel_rfl) rfl rfl (by simp [eval_put_ne, eval_put_eq, size_put, hts])) (rgend_at w0 b _ hr0.log) ?_
                rintro e v1 ⟨rfl, rfl⟩
                rw [← Hen.out]
                refine ⟨_, rfl, hS0, ?_⟩
                refine tkS 2 171 (v := .int .i64 (mq : Nat)) hS0 rfl rfl (by kernel_rfl) (by kernel_rfl) (by kernel_rfl) (by kernel_rfl) (wanted_none rfl) (fun _ _ _ h => h) (fun U hU => r_rgrem (i := en) (j := 9) (q := mq) (by simp [eval_put_ne, eval_put_eq, size_put, hts]) rfl (by decide) HenB.out Hmq.out) ?_
                refine tkS 3 172 (v := .bool false) hS0 rfl rfl (by kernel_rfl) (by kernel_rfl) (by kernel_rfl) (by kernel_rfl) (wanted_none rfl) (fun _ _ _ h => h) (fun U hU => r_rgeql (i := ((mq : Nat) : Int)) (j := 0) (by simp [eval_put_ne, eval_put_eq, size_put, hts]) rfl Hmq2.out) ?_
                refine tkS 4 173 (v := .bool false) hS0 rfl rfl (by kernel_rfl) (by kernel_rfl) (by kernel_rfl) (by kernel_rfl) (wanted_none rfl) (fun _ _ _ h => h) (fun U hU => r_move (by simp [eval_put_ne, eval_put_eq, size_put, hts])) ?_
                refine tkNS 5 174 hS0 rfl rfl (by kernel_rfl) (by kernel_rfl) (by kernel_rfl) (by kernel_rfl) (wanted_not (j := 4) (d := 173) (bb := true) rfl rfl rfl (by simp [eval_put_ne, eval_put_eq, size_put, hts]) (by simp [size_put, hts])) (fun _ _ _ h => h) ?_
                refine tkNS 6 175 hS0 rfl rfl (by kernel_rfl) (by kernel_rfl) (by kernel_rfl) (by kernel_rfl) (wanted_not (j := 4) (d := 173) (bb := true) rfl rfl rfl (by simp [eval_put_ne, eval_put_eq, size_put, hts]) (by simp [size_put, hts])) (fun _ _ _ h => h) ?_
                refine tkNS 7 176 hS0 rfl rfl (by kernel_rfl) (by kernel_rfl) (by kernel_rfl) (by kernel_rfl) (wanted_not (j := 4) (d := 173) (bb := true) rfl rfl rfl (by simp [eval_put_ne, eval_put_eq, size_put, hts]) (by simp [size_put, hts])) (fun _ _ _ h => h) ?_
                refine tkNS 8 177 hS0 rfl rfl (by kernel_rfl) (by kernel_rfl) (by kernel_rfl) (by kernel_rfl) (wanted_not (j := 4) (d := 173) (bb := true) rfl rfl rfl (by simp [eval_put_ne, eval_put_eq, size_put, hts]) (by simp [size_put, hts])) (fun _ _ _ h => h) ?_
                refine tkNS 9 178 hS0 rfl rfl (by kernel_rfl) (by kernel_rfl) (by kernel_rfl) (by kernel_rfl) (wanted_not (j := 4) (d := 173) (bb := true) rfl rfl rfl (by simp [eval_put_ne, eval_put_eq, size_put, hts]) (by simp [size_put, hts])) (fun _ _ _ h => h) ?_
                refine tkNS 10 179 hS0 rfl rfl (by kernel_rfl) (by kernel_rfl) (by kernel_rfl) (by kernel_rfl) (wanted_not (j := 4) (d := 173) (bb := true) rfl rfl rfl (by simp [eval_put_ne, eval_put_eq, size_put, hts]) (by simp [size_put, hts])) (fun _ _ _ h => h) ?_
                refine tkNS 11 180 hS0 rfl rfl (by kernel_rfl) (by kernel_rfl) (by kernel_rfl) (by kernel_rfl) (wanted_not (j := 4) (d := 173) (bb := true) rfl rfl rfl (by simp [eval_put_ne, eval_put_eq, size_put, hts]) (by simp [size_put, hts])) (fun _ _ _ h => h) ?_
                refine tkNS 12 181 hS0 rfl rfl (by kernel_rfl) (by kernel_rfl) (by kernel_rfl) (by kernel_rfl) (wanted_not (j := 4) (d := 173) (bb := true) rfl rfl rfl (by simp [eval_put_ne, eval_put_eq, size_put, hts]) (by simp [size_put, hts])) (fun _ _ _ h => h) ?_
                refine tkS 13 182 (v := .bool false) hS0 rfl rfl (by kernel_rfl) (by kernel_rfl) (by kernel_rfl) (by kernel_rfl) (wanted_none rfl) (fun _ _ _ h => h) (fun U hU => r_pickF (by simp [eval_put_ne, eval_put_eq, size_put, hts]) rfl) ?_
                refine doneS (by kernel_rfl) ?_
                rw [hfr.out]
                clear hfr e9 e24 hts
                simp only [put_lit, put_none, List.set_cons_succ, List.set_cons_zero]
                have HX13 := hide hS0
                have HAdd := hide (fnd_addB HF7.out.fnd HS2.out Hq.out Hcb.out hr0 hS0.carr)
                clear hr0 hS0 hkw hheap
                have HB13 : Hid (Blk _ bx [.int .i64 3, .int .i64 1, .int .i64 (q : Nat), .slice none 0 0] 37) := hide HX13.out
                go_wp2_with (first
                  | (with_reducible refine aw_load (x := .tmp 24) (M := [.int .i64 3, .int .i64 1, .int .i64 (q : Nat), .slice none 0 0]) Try.agg37 rfl HB13.out (by simp) rfl ?_)
                  | fail)
                refine HAdd.out.mono ?_
                rintro e w14 ⟨pp, ec, rfl, hx14, hout⟩
                have HX14 := hide hx14
                have HOut := hide hout
                clear hx14 hout HAdd
                go_wp2_with fail
                refine (HOut.out.flush HF7.out.fnd.len HF7.out.fnd.l64 HF7.out.fnd.lt (by have := Hcb.out; omega) HX14.out.carr).mono ?_
                rintro e w15 ⟨rfl, hc15, hout2⟩
                have HC15 := hide hc15
                have HOut2 := hide hout2
                clear hc15 hout2 HOut
                go_wp2_with fail
                refine (HOut2.out.commits HC15.out).mono ?_
                rintro e w16 ⟨⟨ga, gn, gc⟩, R2, rfl, hgn, hc16, ho16, hm2, hk16⟩
                simp only at hgn ho16 ⊢
                have hx16 := hc16.at
                have HGn := hide hgn
                clear hc16 hgn
                go_wp2_with fail
                have hgn := HGn.out
                rcases hm2 with ⟨rfl, hm2⟩ | ⟨rfl, hm2⟩
                · obtain ⟨hl2, hs2⟩ := last_same HM8.out hm2
                  rw [← HFn.out] at hl2
                  rw [← hgn] at hl2
                  have hlt2 : R1.length < R2.length := by rw [← hgn, hl2, HFn.out]; omega
                  obtain ⟨y2, hy2⟩ : ∃ y2, y2 = R2[R1.length] := ⟨_, rfl⟩
                  obtain ⟨g2, G2, rfl, _, hb2, hl4, hm4, ha4⟩ := rv_at ho16 hlt2
                  have hs3 := hs2 hlt2
                  rw [← hy2] at hm4 ha4 hs3
                  rw [← HFn.out] at hl4 hm4
                  have HG2 := hide (And.intro hb2 (And.intro hl4 (And.intro hm4 (And.intro ha4 hs3))))
                  have HLen : Hid (decide ((gn : Int) = ((j + 1 : Nat) : Int)) = true) := hide (by rw [decide_eq_true_eq]; omega)
                  have HLt : Hid (j < gn) := hide (by omega)
                  have HXg := hide hx16
                  have HK16 := hide hk16
                  clear hb2 hl4 hm4 ha4 hs3 hy2 hlt2 hs2 hm2 hl2 ho16 hx16 hk16 hgn
                  refine hold_frame (p := fun fr => Code.wp Try.prog _ _ fr _) ?_
                  intro fr hfr
                  have e21 : fr.eval (.tmp 21) = .slice fa j fc := by rw [hfr.out]; rfl
                  have e22 : fr.eval (.tmp 22) = .int .i64 0 := by rw [hfr.out]; rfl
                  have e24 : fr.eval (.tmp 24) = .pointer (some ⟨bx, 0, none⟩) := by rw [hfr.out]; rfl
                  have e25 : fr.eval (.tmp 25) = .slice (some ⟨g2, 0, none⟩) gn gc := by rw [hfr.out]; rfl
                  have hts : fr.tmps.size = 226 := by rw [hfr.out]; rfl
                  refine region_S0 99 Try.mixed ?_
                  intro w0 hkw hheap
                  have hS0 : Kept (fun _ => False) w0 w0 := Kept.refl (fun _ => False) w0
                  refine ⟨Kept (fun _ => False) w0, ?_⟩
                  refine tkS 0 196 (v := .int .i64 0) hS0 rfl rfl (by kernel_rfl) (by kernel_rfl) (by kernel_rfl) (by kernel_rfl) (wanted_none rfl) (fun _ _ _ h => h) (fun U hU => r_move (by simp [eval_put_ne, eval_put_eq, size_put, hts, e22])) ?_
                  refine tkS 1 197 (v := .bool false) hS0 rfl rfl (by kernel_rfl) (by kernel_rfl) (by kernel_rfl) (by kernel_rfl) (wanted_none rfl) (fun _ _ _ h => h) (fun U hU => r_eqlE (i := 0) (j := 30) (by simp [eval_put_ne, eval_put_eq, size_put, hts]) rfl rfl) ?_
                  refine tkS 2 198 (v := .bool false) hS0 rfl rfl (by kernel_rfl) (by kernel_rfl) (by kernel_rfl) (by kernel_rfl) (wanted_none rfl) (fun _ _ _ h => h) (fun U hU => r_move (by simp [eval_put_ne, eval_put_eq, size_put, hts])) ?_
                  refine tkNS 3 199 hS0 rfl rfl (by kernel_rfl) (by kernel_rfl) (by kernel_rfl) (by kernel_rfl) (wanted_not (j := 2) (d := 198) (bb := true) rfl rfl rfl (by simp [eval_put_ne, eval_put_eq, size_put, hts]) (by simp [size_put, hts])) (fun _ _ _ h => h) ?_
                  refine tkNS 4 200 hS0 rfl rfl (by kernel_rfl) (by kernel_rfl) (by kernel_rfl) (by kernel_rfl) (wanted_not (j := 2) (d := 198) (bb := true) rfl rfl rfl (by simp [eval_put_ne, eval_put_eq, size_put, hts]) (by simp [size_put, hts])) (fun _ _ _ h => h) ?_
                  refine tkNS 5 201 hS0 rfl rfl (by kernel_rfl) (by kernel_rfl) (by kernel_rfl) (by kernel_rfl) (wanted_not (j := 2) (d := 198) (bb := true) rfl rfl rfl (by simp [eval_put_ne, eval_put_eq, size_put, hts]) (by simp [size_put, hts])) (fun _ _ _ h => h) ?_
                  refine tkNS 6 202 hS0 rfl rfl (by kernel_rfl) (by kernel_rfl) (by kernel_rfl) (by kernel_rfl) (wanted_not (j := 2) (d := 198) (bb := true) rfl rfl rfl (by simp [eval_put_ne, eval_put_eq, size_put, hts]) (by simp [size_put, hts])) (fun _ _ _ h => h) ?_
                  refine tkNS 7 203 hS0 rfl rfl (by kernel_rfl) (by kernel_rfl) (by kernel_rfl) (by kernel_rfl) (wanted_not (j := 2) (d := 198) (bb := true) rfl rfl rfl (by simp [eval_put_ne, eval_put_eq, size_put, hts]) (by simp [size_put, hts])) (fun _ _ _ h => h) ?_
                  refine tkS 8 204 (v := .bool false) hS0 rfl rfl (by kernel_rfl) (by kernel_rfl) (by kernel_rfl) (by kernel_rfl) (wanted_none rfl) (fun _ _ _ h => h) (fun U hU => r_pickF (by simp [eval_put_ne, eval_put_eq, size_put, hts]) rfl) ?_
                  refine tkS 9 205 (v := .bool false) hS0 rfl rfl (by kernel_rfl) (by kernel_rfl) (by kernel_rfl) (by kernel_rfl) (wanted_none rfl) (fun _ _ _ h => h) (fun U hU => r_move (by simp [eval_put_ne, eval_put_eq, size_put, hts])) ?_
                  refine tkS 10 206 (v := .int .i64 0) hS0 rfl rfl (by kernel_rfl) (by kernel_rfl) (by kernel_rfl) (by kernel_rfl) (wanted_some (j := 9) (d := 205) (bb := false) rfl rfl rfl (by simp [eval_put_ne, eval_put_eq, size_put, hts]) (by simp [size_put, hts])) (fun _ _ _ h => h) (fun U hU => r_move (by simp [eval_put_ne, eval_put_eq, size_put, hts, e22])) ?_
                  refine tkS 11 207 (v := .bool true) hS0 rfl rfl (by kernel_rfl) (by kernel_rfl) (by kernel_rfl) (by kernel_rfl) (wanted_some (j := 9) (d := 205) (bb := false) rfl rfl rfl (by simp [eval_put_ne, eval_put_eq, size_put, hts]) (by simp [size_put, hts])) (fun _ _ _ h => h) (fun U hU => r_eqlE (i := 0) (j := 0) (by simp [eval_put_ne, eval_put_eq, size_put, hts]) rfl rfl) ?_
                  refine tkS 12 208 (v := .bool true) hS0 rfl rfl (by kernel_rfl) (by kernel_rfl) (by kernel_rfl) (by kernel_rfl) (wanted_some (j := 9) (d := 205) (bb := false) rfl rfl rfl (by simp [eval_put_ne, eval_put_eq, size_put, hts]) (by simp [size_put, hts])) (fun _ _ _ h => h) (fun U hU => r_move (by simp [eval_put_ne, eval_put_eq, size_put, hts])) ?_
                  refine tkS 13 209 (v := .slice (some ⟨g2, 0, none⟩) gn gc) hS0 rfl rfl (by kernel_rfl) (by kernel_rfl) (by kernel_rfl) (by kernel_rfl) (wanted_some (j := 12) (d := 208) (bb := true) rfl rfl rfl (by simp [eval_put_ne, eval_put_eq, size_put, hts]) (by simp [size_put, hts])) (fun _ _ _ h => h) (fun U hU => r_move (by simp [eval_put_ne, eval_put_eq, size_put, hts, e25])) ?_
                  refine tkS 14 210 (v := .int .i64 (gn : Nat)) hS0 rfl rfl (by kernel_rfl) (by kernel_rfl) (by kernel_rfl) (by kernel_rfl) (wanted_some (j := 12) (d := 208) (bb := true) rfl rfl rfl (by simp [eval_put_ne, eval_put_eq, size_put, hts]) (by simp [size_put, hts])) (fun _ _ _ h => h) (fun U hU => r_len34 (ao := some ⟨g2, 0, none⟩) (l := gn) (c := gc) (by simp [eval_put_ne, eval_put_eq, size_put, hts])) ?_
                  refine tkS 15 211 (v := .slice fa j fc) hS0 rfl rfl (by kernel_rfl) (by kernel_rfl) (by kernel_rfl) (by kernel_rfl) (wanted_some (j := 12) (d := 208) (bb := true) rfl rfl rfl (by simp [eval_put_ne, eval_put_eq, size_put, hts]) (by simp [size_put, hts])) (fun _ _ _ h => h) (fun U hU => r_move (by simp [eval_put_ne, eval_put_eq, size_put, hts, e21])) ?_
                  refine tkS 16 212 (v := .int .i64 (j : Nat)) hS0 rfl rfl (by kernel_rfl) (by kernel_rfl) (by kernel_rfl) (by kernel_rfl) (wanted_some (j := 12) (d := 208) (bb := true) rfl rfl rfl (by simp [eval_put_ne, eval_put_eq, size_put, hts]) (by simp [size_put, hts])) (fun _ _ _ h => h) (fun U hU => r_len34 (ao := fa) (l := j) (c := fc) (by simp [eval_put_ne, eval_put_eq, size_put, hts])) ?_
                  refine tkS 17 213 (v := .int .i64 ((j + 1 : Nat) : Int)) hS0 rfl rfl (by kernel_rfl) (by kernel_rfl) (by kernel_rfl) (by kernel_rfl) (wanted_some (j := 12) (d := 208) (bb := true) rfl rfl rfl (by simp [eval_put_ne, eval_put_eq, size_put, hts]) (by simp [size_put, hts])) (fun _ _ _ h => h) (fun U hU => r_rgadd (i := j) (j := 1) (by simp [eval_put_ne, eval_put_eq, size_put, hts]) rfl (by have := Hf20.out; omega)) ?_
                  refine tkS 18 214 (v := .bool true) hS0 rfl rfl (by kernel_rfl) (by kernel_rfl) (by kernel_rfl) (by kernel_rfl) (wanted_some (j := 12) (d := 208) (bb := true) rfl rfl rfl (by simp [eval_put_ne, eval_put_eq, size_put, hts]) (by simp [size_put, hts])) (fun _ _ _ h => h) (fun U hU => r_rgeql (i := (gn : Int)) (j := ((j + 1 : Nat) : Int)) (by simp [eval_put_ne, eval_put_eq, size_put, hts]) (by simp [eval_put_ne, eval_put_eq, size_put, hts]) HLen.out) ?_
                  refine tkS 19 215 (v := .bool true) hS0 rfl rfl (by kernel_rfl) (by kernel_rfl) (by kernel_rfl) (by kernel_rfl) (wanted_some (j := 9) (d := 205) (bb := false) rfl rfl rfl (by simp [eval_put_ne, eval_put_eq, size_put, hts]) (by simp [size_put, hts])) (fun _ _ _ h => h) (fun U hU => r_pick (by simp [eval_put_ne, eval_put_eq, size_put, hts]) (by simp [eval_put_ne, eval_put_eq, size_put, hts])) ?_
                  refine tkS 20 216 (v := .bool true) hS0 rfl rfl (by kernel_rfl) (by kernel_rfl) (by kernel_rfl) (by kernel_rfl) (wanted_some (j := 9) (d := 205) (bb := false) rfl rfl rfl (by simp [eval_put_ne, eval_put_eq, size_put, hts]) (by simp [size_put, hts])) (fun _ _ _ h => h) (fun U hU => r_move (by simp [eval_put_ne, eval_put_eq, size_put, hts])) ?_
                  refine tkS 21 217 (v := .slice (some ⟨g2, 0, none⟩) gn gc) hS0 rfl rfl (by kernel_rfl) (by kernel_rfl) (by kernel_rfl) (by kernel_rfl) (wanted_some (j := 20) (d := 216) (bb := true) rfl rfl rfl (by simp [eval_put_ne, eval_put_eq, size_put, hts]) (by simp [size_put, hts])) (fun _ _ _ h => h) (fun U hU => r_move (by simp [eval_put_ne, eval_put_eq, size_put, hts, e25])) ?_
                  refine tkS 22 218 (v := .slice fa j fc) hS0 rfl rfl (by kernel_rfl) (by kernel_rfl) (by kernel_rfl) (by kernel_rfl) (wanted_some (j := 20) (d := 216) (bb := true) rfl rfl rfl (by simp [eval_put_ne, eval_put_eq, size_put, hts]) (by simp [size_put, hts])) (fun _ _ _ h => h) (fun U hU => r_move (by simp [eval_put_ne, eval_put_eq, size_put, hts, e21])) ?_
                  refine tkS 23 219 (v := .int .i64 (j : Nat)) hS0 rfl rfl (by kernel_rfl) (by kernel_rfl) (by kernel_rfl) (by kernel_rfl) (wanted_some (j := 20) (d := 216) (bb := true) rfl rfl rfl (by simp [eval_put_ne, eval_put_eq, size_put, hts]) (by simp [size_put, hts])) (fun _ _ _ h => h) (fun U hU => r_len34 (ao := fa) (l := j) (c := fc) (by simp [eval_put_ne, eval_put_eq, size_put, hts])) ?_
                  refine tkS 24 220 (v := .pointer (some ⟨g2, j * 4, none⟩)) hS0 rfl rfl (by kernel_rfl) (by kernel_rfl) (by kernel_rfl) (by kernel_rfl) (wanted_some (j := 20) (d := 216) (bb := true) rfl rfl rfl (by simp [eval_put_ne, eval_put_eq, size_put, hts]) (by simp [size_put, hts])) (fun _ _ _ h => h) (fun U hU => r_idx34 (b := g2) (len := gn) (cap := gc) j (by simp [eval_put_ne, eval_put_eq, size_put, hts]) (by simp [eval_put_ne, eval_put_eq, size_put, hts]) HLt.out) ?_
                  refine tkS 25 221 (v := y2.agg) hS0 rfl rfl (by kernel_rfl) (by kernel_rfl) (by kernel_rfl) (by kernel_rfl) (wanted_some (j := 20) (d := 216) (bb := true) rfl rfl rfl (by simp [eval_put_ne, eval_put_eq, size_put, hts]) (by simp [size_put, hts])) (fun _ _ _ h => h) (fun U hU => r_ldRv (b := g2) (k := j * 4) y2 (by simp [eval_put_ne, eval_put_eq, size_put, hts]) ((hkw.trans hU (fun _ _ h => h)).blk HG2.out.1 (fun h => h)) HG2.out.2.1 HG2.out.2.2.1) ?_
                  refine tkS 26 222 (v := (rvK0 q).agg) hS0 rfl rfl (by kernel_rfl) (by kernel_rfl) (by kernel_rfl) (by kernel_rfl) (wanted_some (j := 20) (d := 216) (bb := true) rfl rfl rfl (by simp [eval_put_ne, eval_put_eq, size_put, hts]) (by simp [size_put, hts])) (fun _ _ _ h => h) (fun U hU => r_ldRv (b := bx) (k := 0) (rvK0 q) (by simp [eval_put_ne, eval_put_eq, size_put, hts, e24]) (HXg.out.kept (hkw.trans hU (fun _ _ h => h))) (by simp) rfl) ?_
                  refine oneCS 27 223 (by kernel_rfl) rfl rfl (wanted_some (j := 20) (d := 216) (bb := true) rfl rfl rfl (by simp [eval_put_ne, eval_put_eq, size_put, hts]) (by simp [size_put, hts])) (r_call2 Try.func12 (by kernel_rfl) rfl rfl (by simp [eval_put_ne, eval_put_eq, size_put, hts]) (by simp [eval_put_ne, eval_put_eq, size_put, hts])) (refsame_at w0 y2 (rvK0 q) (HG2.out.2.2.2.1.kept hkw) (rvK0_at _ _) true HG2.out.2.2.2.2) ?_
                  rintro e v1 ⟨rfl, k1⟩
                  refine ⟨_, rfl, k1, ?_⟩
                  refine tkS 28 224 (v := .bool true) k1 rfl rfl (by kernel_rfl) (by kernel_rfl) (by kernel_rfl) (by kernel_rfl) (wanted_some (j := 9) (d := 205) (bb := false) rfl rfl rfl (by simp [eval_put_ne, eval_put_eq, size_put, hts]) (by simp [size_put, hts])) (fun _ _ _ h => h) (fun U hU => r_pick (by simp [eval_put_ne, eval_put_eq, size_put, hts]) (by simp [eval_put_ne, eval_put_eq, size_put, hts])) ?_
                  refine tkS 29 225 (v := .bool true) k1 rfl rfl (by kernel_rfl) (by kernel_rfl) (by kernel_rfl) (by kernel_rfl) (wanted_none rfl) (fun _ _ _ h => h) (fun U hU => r_pickF (by simp [eval_put_ne, eval_put_eq, size_put, hts]) (by simp [eval_put_ne, eval_put_eq, size_put, hts])) ?_
                  refine tkS 30 6 (v := .bool true) k1 rfl rfl (by kernel_rfl) (by kernel_rfl) (by kernel_rfl) (by kernel_rfl) (wanted_none rfl) (fun _ _ _ h => h) (fun U hU => r_assign (by simp [eval_put_ne, eval_put_eq, size_put, hts])) ?_
                  refine doneS (by kernel_rfl) ?_
                  rw [hfr.out]
                  clear hfr e21 e22 e24 e25 hts
                  simp only [put_lit, put_none, List.set_cons_succ, List.set_cons_zero]
                  have HKZ := hide (hkw.trans k1 (fun _ _ h => h))
                  clear hS0 k1 hheap hkw
                  go_wp2
                  go_ret
                  exact ⟨rfl, HK16.out.trans HKZ.out (fun _ _ h => h)⟩
                · have hl2 : gn = j := by
                    have := congrArg List.length hm2
                    rw [← HM8.out] at this
                    simp only [List.length_map] at this
                    rw [hgn, this, HFn.out]
                  have HLen : Hid (decide ((gn : Int) = (j : Int)) = true) := hide (by rw [decide_eq_true_eq]; omega)
                  have HK16 := hide hk16
                  clear hm2 hl2 ho16 hx16 hk16 hgn
                  refine hold_frame (p := fun fr => Code.wp Try.prog _ _ fr _) ?_
                  intro fr hfr
                  have e21 : fr.eval (.tmp 21) = .slice fa j fc := by rw [hfr.out]; rfl
                  have e22 : fr.eval (.tmp 22) = .int .i64 30 := by rw [hfr.out]; rfl
                  have e24 : fr.eval (.tmp 24) = .pointer (some ⟨bx, 0, none⟩) := by rw [hfr.out]; rfl
                  have e25 : fr.eval (.tmp 25) = .slice ga gn gc := by rw [hfr.out]; rfl
                  have hts : fr.tmps.size = 226 := by rw [hfr.out]; rfl
                  refine region_S0 99 Try.mixed ?_
                  intro w0 hkw hheap
                  have hS0 : Kept (fun _ => False) w0 w0 := Kept.refl (fun _ => False) w0
                  refine ⟨Kept (fun _ => False) w0, ?_⟩
                  refine tkS 0 196 (v := .int .i64 30) hS0 rfl rfl (by kernel_rfl) (by kernel_rfl) (by kernel_rfl) (by kernel_rfl) (wanted_none rfl) (fun _ _ _ h => h) (fun U hU => r_move (by simp [eval_put_ne, eval_put_eq, size_put, hts, e22])) ?_
                  refine tkS 1 197 (v := .bool true) hS0 rfl rfl (by kernel_rfl) (by kernel_rfl) (by kernel_rfl) (by kernel_rfl) (wanted_none rfl) (fun _ _ _ h => h) (fun U hU => r_eqlE (i := 30) (j := 30) (by simp [eval_put_ne, eval_put_eq, size_put, hts]) rfl rfl) ?_
                  refine tkS 2 198 (v := .bool true) hS0 rfl rfl (by kernel_rfl) (by kernel_rfl) (by kernel_rfl) (by kernel_rfl) (wanted_none rfl) (fun _ _ _ h => h) (fun U hU => r_move (by simp [eval_put_ne, eval_put_eq, size_put, hts])) ?_
                  refine tkS 3 199 (v := .slice ga gn gc) hS0 rfl rfl (by kernel_rfl) (by kernel_rfl) (by kernel_rfl) (by kernel_rfl) (wanted_some (j := 2) (d := 198) (bb := true) rfl rfl rfl (by simp [eval_put_ne, eval_put_eq, size_put, hts]) (by simp [size_put, hts])) (fun _ _ _ h => h) (fun U hU => r_move (by simp [eval_put_ne, eval_put_eq, size_put, hts, e25])) ?_
                  refine tkS 4 200 (v := .int .i64 (gn : Nat)) hS0 rfl rfl (by kernel_rfl) (by kernel_rfl) (by kernel_rfl) (by kernel_rfl) (wanted_some (j := 2) (d := 198) (bb := true) rfl rfl rfl (by simp [eval_put_ne, eval_put_eq, size_put, hts]) (by simp [size_put, hts])) (fun _ _ _ h => h) (fun U hU => r_len34 (ao := ga) (l := gn) (c := gc) (by simp [eval_put_ne, eval_put_eq, size_put, hts])) ?_
                  refine tkS 5 201 (v := .slice fa j fc) hS0 rfl rfl (by kernel_rfl) (by kernel_rfl) (by kernel_rfl) (by kernel_rfl) (wanted_some (j := 2) (d := 198) (bb := true) rfl rfl rfl (by simp [eval_put_ne, eval_put_eq, size_put, hts]) (by simp [size_put, hts])) (fun _ _ _ h => h) (fun U hU => r_move (by simp [eval_put_ne, eval_put_eq, size_put, hts, e21])) ?_
                  refine tkS 6 202 (v := .int .i64 (j : Nat)) hS0 rfl rfl (by kernel_rfl) (by kernel_rfl) (by kernel_rfl) (by kernel_rfl) (wanted_some (j := 2) (d := 198) (bb := true) rfl rfl rfl (by simp [eval_put_ne, eval_put_eq, size_put, hts]) (by simp [size_put, hts])) (fun _ _ _ h => h) (fun U hU => r_len34 (ao := fa) (l := j) (c := fc) (by simp [eval_put_ne, eval_put_eq, size_put, hts])) ?_
                  refine tkS 7 203 (v := .bool true) hS0 rfl rfl (by kernel_rfl) (by kernel_rfl) (by kernel_rfl) (by kernel_rfl) (wanted_some (j := 2) (d := 198) (bb := true) rfl rfl rfl (by simp [eval_put_ne, eval_put_eq, size_put, hts]) (by simp [size_put, hts])) (fun _ _ _ h => h) (fun U hU => r_rgeql (i := (gn : Int)) (j := (j : Int)) (by simp [eval_put_ne, eval_put_eq, size_put, hts]) (by simp [eval_put_ne, eval_put_eq, size_put, hts]) HLen.out) ?_
                  refine tkS 8 204 (v := .bool true) hS0 rfl rfl (by kernel_rfl) (by kernel_rfl) (by kernel_rfl) (by kernel_rfl) (wanted_none rfl) (fun _ _ _ h => h) (fun U hU => r_pick (by simp [eval_put_ne, eval_put_eq, size_put, hts]) (by simp [eval_put_ne, eval_put_eq, size_put, hts])) ?_
                  refine tkS 9 205 (v := .bool true) hS0 rfl rfl (by kernel_rfl) (by kernel_rfl) (by kernel_rfl) (by kernel_rfl) (wanted_none rfl) (fun _ _ _ h => h) (fun U hU => r_move (by simp [eval_put_ne, eval_put_eq, size_put, hts])) ?_
                  refine tkNS 10 206 hS0 rfl rfl (by kernel_rfl) (by kernel_rfl) (by kernel_rfl) (by kernel_rfl) (wanted_not (j := 9) (d := 205) (bb := false) rfl rfl rfl (by simp [eval_put_ne, eval_put_eq, size_put, hts]) (by simp [size_put, hts])) (fun _ _ _ h => h) ?_
                  refine tkNS 11 207 hS0 rfl rfl (by kernel_rfl) (by kernel_rfl) (by kernel_rfl) (by kernel_rfl) (wanted_not (j := 9) (d := 205) (bb := false) rfl rfl rfl (by simp [eval_put_ne, eval_put_eq, size_put, hts]) (by simp [size_put, hts])) (fun _ _ _ h => h) ?_
                  refine tkNS 12 208 hS0 rfl rfl (by kernel_rfl) (by kernel_rfl) (by kernel_rfl) (by kernel_rfl) (wanted_not (j := 9) (d := 205) (bb := false) rfl rfl rfl (by simp [eval_put_ne, eval_put_eq, size_put, hts]) (by simp [size_put, hts])) (fun _ _ _ h => h) ?_
                  refine tkNS 13 209 hS0 rfl rfl (by kernel_rfl) (by kernel_rfl) (by kernel_rfl) (by kernel_rfl) (wanted_undef (j := 12) (d := 208) (bb := true) rfl rfl rfl (by simp [eval_put_ne, eval_put_eq, size_put, hts]) (by simp [size_put, hts])) (fun _ _ _ h => h) ?_
                  refine tkNS 14 210 hS0 rfl rfl (by kernel_rfl) (by kernel_rfl) (by kernel_rfl) (by kernel_rfl) (wanted_undef (j := 12) (d := 208) (bb := true) rfl rfl rfl (by simp [eval_put_ne, eval_put_eq, size_put, hts]) (by simp [size_put, hts])) (fun _ _ _ h => h) ?_
                  refine tkNS 15 211 hS0 rfl rfl (by kernel_rfl) (by kernel_rfl) (by kernel_rfl) (by kernel_rfl) (wanted_undef (j := 12) (d := 208) (bb := true) rfl rfl rfl (by simp [eval_put_ne, eval_put_eq, size_put, hts]) (by simp [size_put, hts])) (fun _ _ _ h => h) ?_
                  refine tkNS 16 212 hS0 rfl rfl (by kernel_rfl) (by kernel_rfl) (by kernel_rfl) (by kernel_rfl) (wanted_undef (j := 12) (d := 208) (bb := true) rfl rfl rfl (by simp [eval_put_ne, eval_put_eq, size_put, hts]) (by simp [size_put, hts])) (fun _ _ _ h => h) ?_
                  refine tkNS 17 213 hS0 rfl rfl (by kernel_rfl) (by kernel_rfl) (by kernel_rfl) (by kernel_rfl) (wanted_undef (j := 12) (d := 208) (bb := true) rfl rfl rfl (by simp [eval_put_ne, eval_put_eq, size_put, hts]) (by simp [size_put, hts])) (fun _ _ _ h => h) ?_
                  refine tkNS 18 214 hS0 rfl rfl (by kernel_rfl) (by kernel_rfl) (by kernel_rfl) (by kernel_rfl) (wanted_undef (j := 12) (d := 208) (bb := true) rfl rfl rfl (by simp [eval_put_ne, eval_put_eq, size_put, hts]) (by simp [size_put, hts])) (fun _ _ _ h => h) ?_
                  refine tkNS 19 215 hS0 rfl rfl (by kernel_rfl) (by kernel_rfl) (by kernel_rfl) (by kernel_rfl) (wanted_not (j := 9) (d := 205) (bb := false) rfl rfl rfl (by simp [eval_put_ne, eval_put_eq, size_put, hts]) (by simp [size_put, hts])) (fun _ _ _ h => h) ?_
                  refine tkNS 20 216 hS0 rfl rfl (by kernel_rfl) (by kernel_rfl) (by kernel_rfl) (by kernel_rfl) (wanted_not (j := 9) (d := 205) (bb := false) rfl rfl rfl (by simp [eval_put_ne, eval_put_eq, size_put, hts]) (by simp [size_put, hts])) (fun _ _ _ h => h) ?_
                  refine tkNS 21 217 hS0 rfl rfl (by kernel_rfl) (by kernel_rfl) (by kernel_rfl) (by kernel_rfl) (wanted_undef (j := 20) (d := 216) (bb := true) rfl rfl rfl (by simp [eval_put_ne, eval_put_eq, size_put, hts]) (by simp [size_put, hts])) (fun _ _ _ h => h) ?_
                  refine tkNS 22 218 hS0 rfl rfl (by kernel_rfl) (by kernel_rfl) (by kernel_rfl) (by kernel_rfl) (wanted_undef (j := 20) (d := 216) (bb := true) rfl rfl rfl (by simp [eval_put_ne, eval_put_eq, size_put, hts]) (by simp [size_put, hts])) (fun _ _ _ h => h) ?_
                  refine tkNS 23 219 hS0 rfl rfl (by kernel_rfl) (by kernel_rfl) (by kernel_rfl) (by kernel_rfl) (wanted_undef (j := 20) (d := 216) (bb := true) rfl rfl rfl (by simp [eval_put_ne, eval_put_eq, size_put, hts]) (by simp [size_put, hts])) (fun _ _ _ h => h) ?_
                  refine tkNS 24 220 hS0 rfl rfl (by kernel_rfl) (by kernel_rfl) (by kernel_rfl) (by kernel_rfl) (wanted_undef (j := 20) (d := 216) (bb := true) rfl rfl rfl (by simp [eval_put_ne, eval_put_eq, size_put, hts]) (by simp [size_put, hts])) (fun _ _ _ h => h) ?_
                  refine tkNS 25 221 hS0 rfl rfl (by kernel_rfl) (by kernel_rfl) (by kernel_rfl) (by kernel_rfl) (wanted_undef (j := 20) (d := 216) (bb := true) rfl rfl rfl (by simp [eval_put_ne, eval_put_eq, size_put, hts]) (by simp [size_put, hts])) (fun _ _ _ h => h) ?_
                  refine tkNS 26 222 hS0 rfl rfl (by kernel_rfl) (by kernel_rfl) (by kernel_rfl) (by kernel_rfl) (wanted_undef (j := 20) (d := 216) (bb := true) rfl rfl rfl (by simp [eval_put_ne, eval_put_eq, size_put, hts]) (by simp [size_put, hts])) (fun _ _ _ h => h) ?_
                  refine tkNS 27 223 hS0 rfl rfl (by kernel_rfl) (by kernel_rfl) (by kernel_rfl) (by kernel_rfl) (wanted_undef (j := 20) (d := 216) (bb := true) rfl rfl rfl (by simp [eval_put_ne, eval_put_eq, size_put, hts]) (by simp [size_put, hts])) (fun _ _ _ h => h) ?_
                  refine tkNS 28 224 hS0 rfl rfl (by kernel_rfl) (by kernel_rfl) (by kernel_rfl) (by kernel_rfl) (wanted_not (j := 9) (d := 205) (bb := false) rfl rfl rfl (by simp [eval_put_ne, eval_put_eq, size_put, hts]) (by simp [size_put, hts])) (fun _ _ _ h => h) ?_
                  refine tkS 29 225 (v := .bool true) hS0 rfl rfl (by kernel_rfl) (by kernel_rfl) (by kernel_rfl) (by kernel_rfl) (wanted_none rfl) (fun _ _ _ h => h) (fun U hU => r_pick (by simp [eval_put_ne, eval_put_eq, size_put, hts]) rfl) ?_
                  refine tkS 30 6 (v := .bool true) hS0 rfl rfl (by kernel_rfl) (by kernel_rfl) (by kernel_rfl) (by kernel_rfl) (wanted_none rfl) (fun _ _ _ h => h) (fun U hU => r_assign (by simp [eval_put_ne, eval_put_eq, size_put, hts])) ?_
                  refine doneS (by kernel_rfl) ?_
                  rw [hfr.out]
                  clear hfr e21 e22 e24 e25 hts
                  simp only [put_lit, put_none, List.set_cons_succ, List.set_cons_zero]
                  have HKZ := hide hkw
                  clear hS0 hheap hkw
                  go_wp2
                  go_ret
                  exact ⟨rfl, HK16.out.trans HKZ.out (fun _ _ h => h)⟩
end Go.Proofs.Ytbbhchmdggfncaa
