/-
  Read of the document's books.
-/
import Derived.Test.YtclfklcboigifaaTxRf
namespace Go.Proofs.Ytclfklcboigifaa
open Go.RowKit Go.Shelf
set_option linter.unusedSimpArgs false
set_option linter.unusedVariables false
set_option maxRecDepth 100000

theorem rread_no (w : World) (n la : Int) (v : Value) (E : List EntX) (h : TxAt w v E) (hs : Sorted ltI (entsX E)) (hl : E.length ≤ 1000) (t k : Int) (r : Int) (hr : txErr n (rowsX E) t k = r) (hr0 : r ≠ 0) :
    Calls Try.prog 16 #[.agg #[.int .i64 n, .int .i64 la, v], .int .i64 t, .int .i64 k] w fun e w' => e = .returned (.tuple #[.string ⟨#[]⟩, .bool false, .int .i64 r]) ∧ Kept (fun _ => False) w w' := by
  have HA : Hid (∀ w', Kept (fun _ => False) w w' → Calls Try.prog 29 #[.agg #[.int .i64 n, .int .i64 la, v], .int .i64 t] w' fun e w'' => e = .returned (.int .i64 (atK (entsX E) t)) ∧ Kept (fun _ => False) w' w'') := hide (fun w' hk => rat_at w' n la v _ (h.1.kept hk) hs (by rw [entsX_len]; exact hl) t _ rfl)
  obtain ⟨ao, cap, rfl⟩ := h.1.sl
  unfold txErr at hr
  rw [ents_rows_has] at hr
  unfold atK at HA
  clear h hs
  generalize (entsX E).length = len at *
  generalize posK ltI (entsX E) t = p at *
  cases hh : hasK ltI (entsX E) t with
  | false =>
    rw [hh] at HA hr
    have HA : Hid (∀ w', Kept (fun _ => False) w w' → Calls Try.prog 29 #[.agg #[.int .i64 n, .int .i64 la, .slice ao len cap], .int .i64 t] w' fun e w'' => e = .returned (.int .i64 (-1)) ∧ Kept (fun _ => False) w' w'') := HA
    clear hh
    have H : Calls Try.prog 16 #[.agg #[.int .i64 n, .int .i64 la, .slice ao len cap], .int .i64 t, .int .i64 k] w fun e w' => e = .returned (.tuple #[.string ⟨#[]⟩, .bool false, .int .i64 40]) ∧ Kept (fun _ => False) w w' := by
      go_enter Try.func16, Try.ntmps16
      go_wp2_with (first
        | ((with_reducible refine aw_box (t := 30) (v := .agg #[.int .i64 n, .int .i64 la, .slice ao len cap]) rfl ?_); intro w1 hb1 hk1 hz1; have HK1 := hide hk1; have HB1 := hide hb1; clear hk1 hz1 hb1)
        | ((with_reducible refine aw_load (M := [.int .i64 n, .int .i64 la, .slice ao len cap]) Try.agg30 rfl HB1.out (by simp [Value.cells]) rfl ?_))
        | (go_at_call 29; refine (HA.out w1 HK1.out).mono ?_; rintro e w2 ⟨rfl, hk2⟩; have HK2 := hide (HK1.out.trans hk2 (fun _ _ h => h)); have c0 : w2.cell? ⟨w.heap.size, 0, none⟩ = some (.int .i64 n) := (hk2.blk HB1.out (fun h => h)).cell 0; clear hk2))
      go_ret3
      exact ⟨rfl, HK2.out⟩
    refine H.mono ?_
    rintro e w' ⟨rfl, hk⟩
    exact ⟨by rw [← hr]; simp, hk⟩
  | true =>
    rw [hh] at HA hr
    have HA : Hid (∀ w', Kept (fun _ => False) w w' → Calls Try.prog 29 #[.agg #[.int .i64 n, .int .i64 la, .slice ao len cap], .int .i64 t] w' fun e w'' => e = .returned (.int .i64 (p : Int)) ∧ Kept (fun _ => False) w' w'') := HA
    clear hh
    by_cases h1 : k < 0
    · skip
      have H : Calls Try.prog 16 #[.agg #[.int .i64 n, .int .i64 la, .slice ao len cap], .int .i64 t, .int .i64 k] w fun e w' => e = .returned (.tuple #[.string ⟨#[]⟩, .bool false, .int .i64 41]) ∧ Kept (fun _ => False) w w' := by
        go_enter Try.func16, Try.ntmps16
        go_wp2_with (first
          | ((with_reducible refine aw_box (t := 30) (v := .agg #[.int .i64 n, .int .i64 la, .slice ao len cap]) rfl ?_); intro w1 hb1 hk1 hz1; have HK1 := hide hk1; have HB1 := hide hb1; clear hk1 hz1 hb1)
          | ((with_reducible refine aw_load (M := [.int .i64 n, .int .i64 la, .slice ao len cap]) Try.agg30 rfl HB1.out (by simp [Value.cells]) rfl ?_))
          | (go_at_call 29; refine (HA.out w1 HK1.out).mono ?_; rintro e w2 ⟨rfl, hk2⟩; have HK2 := hide (HK1.out.trans hk2 (fun _ _ h => h)); have c0 : w2.cell? ⟨w.heap.size, 0, none⟩ = some (.int .i64 n) := (hk2.blk HB1.out (fun h => h)).cell 0; clear hk2))
        go_ret3
        exact ⟨rfl, HK2.out⟩
      refine H.mono ?_
      rintro e w' ⟨rfl, hk⟩
      exact ⟨by rw [← hr]; simp [h1], hk⟩
    · by_cases h2 : n ≤ k
      · skip
        have H : Calls Try.prog 16 #[.agg #[.int .i64 n, .int .i64 la, .slice ao len cap], .int .i64 t, .int .i64 k] w fun e w' => e = .returned (.tuple #[.string ⟨#[]⟩, .bool false, .int .i64 41]) ∧ Kept (fun _ => False) w w' := by
          go_enter Try.func16, Try.ntmps16
          go_wp2_with (first
            | ((with_reducible refine aw_box (t := 30) (v := .agg #[.int .i64 n, .int .i64 la, .slice ao len cap]) rfl ?_); intro w1 hb1 hk1 hz1; have HK1 := hide hk1; have HB1 := hide hb1; clear hk1 hz1 hb1)
            | ((with_reducible refine aw_load (M := [.int .i64 n, .int .i64 la, .slice ao len cap]) Try.agg30 rfl HB1.out (by simp [Value.cells]) rfl ?_))
            | (go_at_call 29; refine (HA.out w1 HK1.out).mono ?_; rintro e w2 ⟨rfl, hk2⟩; have HK2 := hide (HK1.out.trans hk2 (fun _ _ h => h)); have c0 : w2.cell? ⟨w.heap.size, 0, none⟩ = some (.int .i64 n) := (hk2.blk HB1.out (fun h => h)).cell 0; clear hk2))
          go_ret3
          exact ⟨rfl, HK2.out⟩
        refine H.mono ?_
        rintro e w' ⟨rfl, hk⟩
        exact ⟨by rw [← hr]; simp [h1, h2], hk⟩
      · exact absurd hr.symm (by simp [h1, h2]; exact fun e => hr0 (by rw [e]))
set_option maxHeartbeats 2000000 in
theorem rread_ok (w : World) (n la : Int) (v : Value) (E : List EntX) (h : TxAt w v E) (hs : Sorted ltI (entsX E)) (hl : E.length ≤ 1000) (t k : Int) (hr : txErr n (rowsX E) t k = 0) (fd : Option Wr) (hfd : findW (valK ltI [] (rowsX E) t) k = fd) :
    Calls Try.prog 16 #[.agg #[.int .i64 n, .int .i64 la, v], .int .i64 t, .int .i64 k] w fun e w' => e = .returned (.tuple #[.string (strN (bytesOf fd)), .bool fd.isSome, .int .i64 0]) ∧ Kept (fun _ => False) w w' := by
  have hh : hasK ltI (entsX E) t = true ∧ ¬ k < 0 ∧ ¬ n ≤ k := by
    unfold txErr at hr
    rw [ents_rows_has] at hr
    cases hh : hasK ltI (entsX E) t with
    | false => rw [hh] at hr; simp at hr
    | true =>
      rw [hh] at hr
      simp at hr
      exact ⟨rfl, by omega, by omega⟩
  obtain ⟨hh, h1, h2⟩ := hh
  obtain ⟨hlt, hcu⟩ := curX_get hh
  have HA : Hid (∀ w', Kept (fun _ => False) w w' → Calls Try.prog 29 #[.agg #[.int .i64 n, .int .i64 la, v], .int .i64 t] w' fun e w'' => e = .returned (.int .i64 ((posK ltI (entsX E) t : Nat) : Int)) ∧ Kept (fun _ => False) w' w'') := hide (fun w' hk => rat_at w' n la v _ (h.1.kept hk) hs (by rw [entsX_len]; exact hl) t _ (by unfold atK; rw [hh]; rfl))
  have hcw := h.cur t
  rw [curX_rows] at hfd
  obtain ⟨ao, cap, rfl⟩ := h.1.sl
  obtain ⟨g, off, rfl, hcc⟩ := h.1.get hlt
  rw [hcu] at hcc
  obtain ⟨p, pk, hlt2, hp, hcc2⟩ : ∃ (p : Nat) (pk : Int), p < (entsX E).length ∧ posK ltI (entsX E) t = p ∧ Cells w g (off + p * 2) [.int .i64 pk, .slice (curX E t).1.a (curX E t).1.n (curX E t).1.c] := ⟨_, _, hlt, rfl, hcc⟩
  rw [hp] at HA
  have HC := hide hcc2
  have hln : (entsX E).length ≤ 1000 := by rw [entsX_len]; exact hl
  clear h hs hh hcu hcc hcc2 hlt hr hp
  generalize (entsX E).length = len at *
  generalize curX E t = ce at *
  obtain ⟨⟨ca, cn, cc⟩, cw⟩ := ce
  simp only at HC hcw hfd
  obtain rfl : cn = cw.length := WsAt.len hcw
  have hcm := hcw.2.2
  have HCw := hide hcw
  have HFd0 := hide hfd
  clear hcw hfd
  obtain ⟨i0, hi0, hz0, hs0, hb0⟩ := info_parts Try.info63
  have Hi0 := hide hi0
  have Hz0 := hide hz0
  clear hi0 hz0 hs0 hb0
  go_enter Try.func16, Try.ntmps16
  go_wp2_with (first
    | ((with_reducible refine aw_box (t := 30) (v := .agg #[.int .i64 n, .int .i64 la, .slice (some ⟨g, off, none⟩) len cap]) rfl ?_); intro w1 hb1 hk1 hz1; have HK1 := hide hk1; have HB1 := hide hb1; clear hk1 hz1 hb1)
    | ((with_reducible refine aw_load (M := [.int .i64 n, .int .i64 la, .slice (some ⟨g, off, none⟩) len cap]) Try.agg30 rfl HB1.out (by simp [Value.cells]) rfl ?_))
    | (go_at_call 29; refine (HA.out w1 HK1.out).mono ?_; rintro e w2 ⟨rfl, hk2⟩; have HK2 := hide (HK1.out.trans hk2 (fun _ _ h => h)); have c0 : w2.cell? ⟨w.heap.size, 0, none⟩ = some (.int .i64 n) := (hk2.blk HB1.out (fun h => h)).cell 0; have c2 : w2.cell? ⟨w.heap.size, 2, none⟩ = some (.slice (some ⟨g, off, none⟩) len cap) := (hk2.blk HB1.out (fun h => h)).cell 2; have c1 : w2.cell? ⟨g, off + p * 2 + 1, none⟩ = some (.slice ca cw.length cc) := (HK2.out.cells HC.out (fun h => h)) 1 _ rfl; clear hk2))
  go_loopw [32] (fun iv wr => ∃ i : Nat, iv = .int .i64 i ∧ i ≤ cw.length ∧ Hid (Kept (fun _ => False) w wr) ∧ Hid (findW ((cw.drop i).map Wv.wr) k = fd)) (fun iv _ => cw.length - (intOf iv).toNat)
  case atStart => exact ⟨0, rfl, Nat.zero_le _, HK2, by rw [List.drop_zero]; exact HFd0⟩
  case round =>
    clear HK1 HK2 HFd0 c0 c1 c2 HB1
    obtain ⟨i, rfl, hi, HK, HF⟩ := hrel
    by_cases hit : i < cw.length
    · obtain ⟨ga, ao', rfl, d0, d1, hsrc, hnn⟩ := (HCw.out.kept HK.out).get hit
      have hf := HF.out
      rw [List.drop_eq_getElem_cons hit, List.map_cons, findW_cons] at hf
      obtain ⟨x, hx⟩ : ∃ x, x = cw[i] := ⟨_, rfl⟩
      rw [← hx] at d0 d1 hf hsrc
      obtain ⟨bk, ⟨ya, yn, yc⟩, yB⟩ := x
      simp only at d0 d1
      have hf2 : (if bk = k then some (⟨bk, yB⟩ : Wr) else findW ((cw.drop (i + 1)).map Wv.wr) k) = fd := hf
      have HF2 := hide hf2
      have HSr := hide hsrc
      clear hx hf hf2 hsrc hnn HF
      by_cases hbk : bk = k
      · subst hbk
        have HF3 : Hid (fd = some ⟨bk, yB⟩) := hide (by rw [← HF2.out, if_pos rfl])
        clear HF2
        go_wp2_with (first
          | ((with_reducible refine aw_alloc (t := 63) (dst := some 11) Hi0.out Hz0.out ?_); intro w2 hw2 hk2 hz2; have Hz2 := hide hz2; clear hz2 d0 d1)
          | ((with_reducible refine aw_store (M := [.int .i64 bk, .slice ya yn yc]) Try.agg63 rfl rfl rfl (by simp [Value.oneCell']) hw2 (by simp [Value.cells]) ?_); intro w3 hw3 hk3 hz3; rw [put_whole _ _ (by simp [Value.cells])] at hw3; have f0 : w3.cell? ⟨wr.heap.size, 0, none⟩ = some (.int .i64 bk) := hw3.cell 0; have f1 : w3.cell? ⟨wr.heap.size, 1, none⟩ = some (.slice ya yn yc) := hw3.cell 1; have HK3 := hide (hk2.trans hk3 (S := fun _ => False) (fun i hi h => by omega)); clear hz3 hw2 hw3 hk2 hk3)
          | (with_reducible refine stop_convert 40 9 ?_))
        refine hide ?_
        refine wpList_run rfl (r_strS rfl (HSr.out.kept HK3.out)) ?_
        try simp only [put_lit, put_none, List.set_cons_succ, List.set_cons_zero]
        go_wp2
        go_ret3
        exact ⟨by rw [HF3.out]; rfl, HK.out.trans HK3.out (fun _ _ h => h)⟩
      · have HF3 : Hid (findW ((cw.drop (i + 1)).map Wv.wr) k = fd) := hide (by rw [← HF2.out, if_neg hbk])
        clear HF2
        go_wp2_with (first
          | ((with_reducible refine aw_alloc (t := 63) (dst := some 11) Hi0.out Hz0.out ?_); intro w2 hw2 hk2 hz2; have Hz2 := hide hz2; clear hz2 d0 d1)
          | ((with_reducible refine aw_store (M := [.int .i64 bk, .slice ya yn yc]) Try.agg63 rfl rfl rfl (by simp [Value.oneCell']) hw2 (by simp [Value.cells]) ?_); intro w3 hw3 hk3 hz3; rw [put_whole _ _ (by simp [Value.cells])] at hw3; have f0 : w3.cell? ⟨wr.heap.size, 0, none⟩ = some (.int .i64 bk) := hw3.cell 0; have HK3 := hide (HK.out.trans (hk2.trans hk3 (S := fun _ => False) (fun i hi h => by omega)) (fun _ _ h => h)); clear hz3 hw2 hw3 hk2 hk3)
          | fail)
        go_roundw
        case rel => exact ⟨i + 1, by simp, by omega, HK3, HF3⟩
        case measure => simp [intOf]; omega
    · obtain rfl : cw.length = i := by omega
      have HF3 : Hid (fd = none) := hide (by rw [← HF.out, List.drop_length]; rfl)
      go_wp2
      go_ret3
      exact ⟨by rw [HF3.out]; rfl, HK.out⟩
end Go.Proofs.Ytclfklcboigifaa
