/-
  The walk of PackOrder: it answers true, and touches nothing that was there.
-/
import Derived.Test.YteffiglfeenokaaPFirst
namespace Go.Proofs.Yteffiglfeenokaa
open Go.RowKit Go.Shelf
set_option linter.unusedSimpArgs false
set_option linter.unusedVariables false

theorem penNum_nil {x m : Nat} (h : fitsN x m = true) : penNum [] x m = numB x m := by unfold penNum; rw [h]; simp

set_option maxRecDepth 100000 in
set_option maxHeartbeats 4000000 in
theorem order_any (w : World) (a b M : Int) (ha : a ≤ 9223372036854775807) (hb : b ≤ 9223372036854775807) :
    Calls Try.prog 6 #[.int .i64 a, .int .i64 b, .int .i64 M] w fun e w' => e = .returned (.bool true) ∧ Kept (fun _ => False) w w' := by
  go_enter Try.func6, Try.ntmps6
  go_wp2_with fail
  refine (first_any w).mono ?_
  rintro e w1 ⟨rfl, hk1⟩
  go_wp2_with (with_reducible refine stop_build 27 ?_)
  refine hide ?_
  refine wpList_run rfl r_build27 ?_
  refine aw_box (v := .agg #[.slice none 0 0]) rfl ?_
  intro w2 hb1 hk2 hz2
  refine wpList_run rfl r_build27 ?_
  refine aw_box (v := .agg #[.slice none 0 0]) rfl ?_
  intro w3 hb2 hk3 hz3
  have hP := pen_new (hk3.blk hb1 (fun h => h))
  have hQ := pen_new hb2
  have hpq : w1.heap.size ≠ w2.heap.size := by omega
  have hp0 : w.heap.size ≤ w1.heap.size := hk1.size
  have hq0 : w.heap.size ≤ w2.heap.size := by omega
  have hk03 := (hk1.trans hk2 (fun _ _ h => h)).trans hk3 (fun _ _ h => h)
  generalize w1.heap.size = p at *
  generalize w2.heap.size = q at *
  clear hb1 hb2 hk1 hk2 hk3 hz2 hz3
  have hN1 := number_at w3 p _ [] hP (by simp) a M ha
  by_cases hfa : fitsN a M = true
  · obtain ⟨x, m, rfl, rfl, hm1, hm8, hx⟩ := fits_of hfa
    rw [penNum_nil hfa, hfa] at hN1
    have HN1 := hide hN1
    have HQ0 := hide hQ
    clear hN1 hP hQ hfa
    go_wp2_with fail
    refine HN1.out.mono ?_
    rintro e w4 ⟨v1, rfl, hP4, hk4, hm4⟩
    have hQ4 : PenAt w4 q (.slice none 0 0) [] := HQ0.out.kept hk4 (fun h => by
      rcases h with h | h
      · exact hpq h.symm
      · simp [Value.ownBlock] at h) (fun k h => by simp [Value.ownBlock] at h)
    have hk04 : Kept (fun _ => False) w w4 := hk03.trans hk4 (fun i hi h => by
      rcases h with h | h
      · omega
      · simp [Value.ownBlock] at h)
    have HP4 := hide hP4
    have HQ4 := hide hQ4.1
    have hN2 := number_at w4 q _ [] hQ4 (by simp) b m hb
    clear hQ4 hP4 hk4 hm4 HN1 HQ0
    by_cases hfb : fitsN b m = true
    · obtain ⟨y, m', rfl, hmm, _, _, hy⟩ := fits_of hfb
      obtain rfl : m = m' := by omega
      rw [penNum_nil hfb, hfb] at hN2
      have HN2 := hide hN2
      clear hN2 hfb
      go_wp2_with fail
      refine HN2.out.mono ?_
      rintro e w5 ⟨v2, rfl, hQ5, hk5, hm5⟩
      have HP : Hid (PenAt w5 p v1 (numB x m)) := hide (HP4.out.kept hk5 (fun h => by
        rcases h with h | h
        · exact hpq h
        · simp [Value.ownBlock] at h) (fun k hk h => by
        rcases h with h | h
        · rw [h] at hk
          exact HP4.out.2.blk_ne HQ4.out (by decide) hk
        · simp [Value.ownBlock] at h))
      have HQ := hide hQ5
      have hk05 : Kept (fun _ => False) w w5 := hk04.trans hk5 (fun i hi h => by
        rcases h with h | h
        · omega
        · simp [Value.ownBlock] at h)
      clear hQ5 hk5 hm5 HN2
      go_wp2
      refine hold_frame (p := fun fr => Code.wp Try.prog _ _ fr _) ?_
      intro fr hfr
      have e7 : fr.eval (.tmp 7) = .pointer (some ⟨p, 0, none⟩) := by rw [hfr.out]; rfl
      have e8 : fr.eval (.tmp 8) = .pointer (some ⟨q, 0, none⟩) := by rw [hfr.out]; rfl
      have hts : fr.tmps.size = 63 := by rw [hfr.out]; rfl
      refine region_S0 99 Try.mixed ?_
      intro w0 hkw hheap
      have hS0 : Kept (fun _ => False) w0 w0 := Kept.refl (fun _ => False) w0
      refine ⟨Kept (fun _ => False) w0, ?_⟩
      refine tkS 0 29 (v := .pointer (some ⟨p, 0, none⟩)) hS0 rfl rfl (by kernel_rfl) (by kernel_rfl) (by kernel_rfl) (by kernel_rfl) (wanted_none rfl) (fun _ _ _ h => h) (fun U hU => r_move (by simp [eval_put_ne, eval_put_eq, size_put, hts, e7])) ?_
      refine tkS 3 32 (v := .pointer (some ⟨q, 0, none⟩)) hS0 rfl rfl (by kernel_rfl) (by kernel_rfl) (by kernel_rfl) (by kernel_rfl) (wanted_none rfl) (fun _ _ _ h => h) (fun U hU => r_move (by simp [eval_put_ne, eval_put_eq, size_put, hts, e8])) ?_
      refine oneCS 1 30 (by kernel_rfl) rfl rfl (wanted_none rfl) (r_call1 Try.func13 (by kernel_rfl) rfl rfl (by simp [eval_put_ne, eval_put_eq, size_put, hts])) (bytes_at w0 p v1 _ (HP.out.kept hkw (fun h => h) (fun _ _ h => h)) (by rw [numB_length]; omega)) ?_
      rintro e w3 ⟨v3, rfl, hs3, hk3⟩
      refine ⟨_, rfl, hk3, ?_⟩
      refine raiseM (S' := Kept (fun _ => False) w3) (fun U hU => hk3.trans hU (fun _ _ h => h)) ?_
      have hS3 : (Kept (fun _ => False) w3) _ := Kept.refl _ _
      refine tkS 2 31 (v := .string (strN (numB x m))) hS3 rfl rfl (by kernel_rfl) (by kernel_rfl) (by kernel_rfl) (by kernel_rfl) (wanted_none rfl) (fun _ _ _ h => h) (fun U hU => r_strS (by simp [eval_put_ne, eval_put_eq, size_put, hts]) (hs3.kept hU)) ?_
      refine oneCS 4 33 (by kernel_rfl) rfl rfl (wanted_none rfl) (r_call1 Try.func13 (by kernel_rfl) rfl rfl (by simp [eval_put_ne, eval_put_eq, size_put, hts])) (bytes_at w3 q v2 _ ((HQ.out.kept hkw (fun h => h) (fun _ _ h => h)).kept hk3 (fun h => h) (fun _ _ h => h)) (by rw [numB_length]; omega)) ?_
      rintro e w4 ⟨v4, rfl, hs4, hk4⟩
      refine ⟨_, rfl, hk4, ?_⟩
      refine raiseM (S' := Kept (fun _ => False) w4) (fun U hU => hk4.trans hU (fun _ _ h => h)) ?_
      have hS4 : (Kept (fun _ => False) w4) _ := Kept.refl _ _
      refine tkS 5 34 (v := .string (strN (numB y m))) hS4 rfl rfl (by kernel_rfl) (by kernel_rfl) (by kernel_rfl) (by kernel_rfl) (wanted_none rfl) (fun _ _ _ h => h) (fun U hU => r_strS (by simp [eval_put_ne, eval_put_eq, size_put, hts]) (hs4.kept hU)) ?_
      refine tkS 6 9 (v := .string (strN (numB x m))) hS4 rfl rfl (by kernel_rfl) (by kernel_rfl) (by kernel_rfl) (by kernel_rfl) (wanted_none rfl) (fun _ _ _ h => h) (fun U hU => r_assign (by simp [eval_put_ne, eval_put_eq, size_put, hts])) ?_
      refine tkS 7 10 (v := .string (strN (numB y m))) hS4 rfl rfl (by kernel_rfl) (by kernel_rfl) (by kernel_rfl) (by kernel_rfl) (wanted_none rfl) (fun _ _ _ h => h) (fun U hU => r_assign (by simp [eval_put_ne, eval_put_eq, size_put, hts])) ?_
      refine doneS (by kernel_rfl) ?_
      rw [hfr.out]
      clear hfr e7 e8 hts
      simp only [put_lit, List.set_cons_succ, List.set_cons_zero]

      have hkF := (((hk05.trans hkw (fun _ _ h => h)).trans hk3 (fun _ _ h => h)).trans hk4 (fun _ _ h => h))
      have hsx : (strN (numB x m)).size = m := by rw [strN_size, numB_length]
      have hsy : (strN (numB y m)).size = m := by rw [strN_size, numB_length]
      have hls : Op.bytesLess (strN (numB x m)).toList (strN (numB y m)).toList = decide (x < y) := by rw [strN_toList, strN_toList, less_lex _ _ (numB_lt m x) (numB_lt m y), lexN_num hx hy]
      have heq : ((strN (numB x m)).toList == (strN (numB y m)).toList) = decide (x = y) := by
        rw [Bool.eq_iff_iff, beq_iff_eq, decide_eq_true_eq]
        refine ⟨fun h => ?_, fun h => by rw [h]⟩
        rw [ByteArray.toList_eq, ByteArray.toList_eq] at h
        exact numB_inj hx hy (strN_inj (numB_lt m x) (numB_lt m y) (ByteArray.ext (Array.toList_inj.1 h)))
      generalize strN (numB x m) = sx at *
      generalize strN (numB y m) = sy at *
      clear hS0 hS3 hS4 hs3 hs4 hk3 hk4 hkw hheap hx hy HP HQ HP4 HQ4 hpq hp0 hq0 hk03 hk04 hk05
      rcases Nat.lt_trichotomy x y with hc | hc | hc
      · rw [decide_eq_true hc] at hls
        rw [decide_eq_false (by omega)] at heq
        have hc1 : ¬ x = y := by omega
        have hc2 : ((x : Int) == (y : Int)) = false := by simp; omega
        go_wp2
        go_ret
        exact ⟨rfl, hkF⟩
      · subst hc
        rw [decide_eq_false (by omega)] at hls
        rw [decide_eq_true rfl] at heq
        go_wp2
        go_ret
        exact ⟨rfl, hkF⟩
      · rw [decide_eq_false (by omega)] at hls
        rw [decide_eq_false (by omega)] at heq
        have hc1 : ¬ x = y := by omega
        have hc3 : ¬ x < y := by omega
        have hc2 : ((x : Int) == (y : Int)) = false := by simp; omega
        go_wp2
        go_ret
        exact ⟨rfl, hkF⟩
    · have hfb' : fitsN b m = false := by simpa using hfb
      rw [hfb'] at hN2
      have HN2 := hide hN2
      clear hN2 hfb hfb'
      go_wp2_with fail
      refine HN2.out.mono ?_
      rintro e w5 ⟨v2, rfl, hQ5, hk5, hm5⟩
      have hk05 : Kept (fun _ => False) w w5 := hk04.trans hk5 (fun i hi h => by
        rcases h with h | h
        · omega
        · simp [Value.ownBlock] at h)
      clear hQ5 hk5 hm5
      go_wp2
      go_ret
      exact ⟨rfl, hk05⟩
  · have hfa' : fitsN a M = false := by simpa using hfa
    rw [hfa'] at hN1
    have HN1 := hide hN1
    clear hN1 hP hQ hfa hfa'
    go_wp2_with fail
    refine HN1.out.mono ?_
    rintro e w4 ⟨v1, rfl, hP4, hk4, hm4⟩
    have hk04 : Kept (fun _ => False) w w4 := hk03.trans hk4 (fun i hi h => by
      rcases h with h | h
      · omega
      · simp [Value.ownBlock] at h)
    clear hP4 hk4 hm4
    go_wp2
    go_ret
    exact ⟨rfl, hk04⟩

end Go.Proofs.Yteffiglfeenokaa
