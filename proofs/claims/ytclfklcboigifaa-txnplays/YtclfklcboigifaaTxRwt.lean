/-
  Write of the document's books.
-/
import Derived.Test.YtclfklcboigifaaTxRe
namespace Go.Proofs.Ytclfklcboigifaa
open Go.RowKit Go.Shelf
set_option linter.unusedSimpArgs false
set_option linter.unusedVariables false
set_option maxRecDepth 100000

theorem rwrite_no (w : World) (n la : Int) (v : Value) (l : List EntB) (h : SrcEB w v l) (hs : Sorted ltI l) (hl : l.length ≤ 1000) (t k : Int) (da : Option Addr) (dn dc : Nat) (r : Int)
    (hr : (if hasK ltI l t = false then 40 else if k < 0 ∨ n ≤ k then 41 else if dn ≠ 64 then 42 else (0 : Int)) = r) (hr0 : r ≠ 0) :
    Calls Try.prog 15 #[.agg #[.int .i64 n, .int .i64 la, v], .int .i64 t, .int .i64 k, .slice da dn dc] w fun e w' => e = .returned (.tuple #[.agg #[.int .i64 n, .int .i64 la, v], .int .i64 r]) ∧ Kept (fun _ => False) w w' := by
  have HA : Hid (∀ w', Kept (fun _ => False) w w' → Calls Try.prog 29 #[.agg #[.int .i64 n, .int .i64 la, v], .int .i64 t] w' fun e w'' => e = .returned (.int .i64 (atK l t)) ∧ Kept (fun _ => False) w' w'') := hide (fun w' hk => rat_at w' n la v l (h.kept hk) hs hl t _ rfl)
  obtain ⟨ao, cap, rfl⟩ := h.sl
  unfold atK at HA
  clear h hs
  obtain ⟨i0, hi0, hz0, hs0, hb0⟩ := info_parts Try.info30
  have Hi0 := hide hi0
  have Hz0 := hide hz0
  obtain ⟨iX, hiX, hzX, hsX, hbX⟩ := info_parts Try.info57
  have HiX := hide hiX
  have HzX := hide hzX
  have HsX := hide hsX
  obtain ⟨iS, hiS, hzS, hsS, hbS⟩ := info_parts Try.info28
  have HiS := hide hiS
  have HsS := hide hsS
  clear hi0 hz0 hs0 hb0 hiX hzX hsX hbX hiS hzS hsS hbS
  generalize l.length = len at *
  generalize posK ltI l t = p at *
  cases hh : hasK ltI l t with
  | false =>
    rw [hh] at HA hr
    have HA : Hid (∀ w', Kept (fun _ => False) w w' → Calls Try.prog 29 #[.agg #[.int .i64 n, .int .i64 la, .slice ao len cap], .int .i64 t] w' fun e w'' => e = .returned (.int .i64 (-1)) ∧ Kept (fun _ => False) w' w'') := HA
    clear hh
    have H : Calls Try.prog 15 #[.agg #[.int .i64 n, .int .i64 la, .slice ao len cap], .int .i64 t, .int .i64 k, .slice da dn dc] w fun e w' => e = .returned (.tuple #[.agg #[.int .i64 n, .int .i64 la, .slice ao len cap], .int .i64 40]) ∧ Kept (fun _ => False) w w' := by
      go_enter Try.func15, Try.ntmps15
      go_wp2_with (first
        | ((with_reducible refine aw_box (t := 30) (v := .agg #[.int .i64 n, .int .i64 la, .slice ao len cap]) rfl ?_); intro w1 hb1 hk1 hz1; have HK1 := hide hk1; have HB1 := hide hb1; have Hz1 := hide hz1; clear hk1 hz1 hb1)
        | ((with_reducible refine aw_alloc (t := 30) (dst := some 8) Hi0.out Hz0.out ?_); intro w2 hw2 hk2 hz2; have HK2 := hide (HK1.out.trans hk2 (fun _ _ h => h)); have HB2 := hide (hk2.blk HB1.out (fun h => h)); have HW2 : Hid (Blk w2 w1.heap.size [.int .i64 0, .int .i64 0, .slice none 0 0] 30) := hide hw2; have Hz2 := hide hz2; clear hz2 hw2 hk2)
        | ((with_reducible refine aw_load (M := [.int .i64 n, .int .i64 la, .slice ao len cap]) Try.agg30 rfl HB2.out (by simp [Value.cells]) rfl ?_))
        | (go_at_call 29; refine (HA.out w2 HK2.out).mono ?_; rintro e w3 ⟨rfl, hk3⟩; have HK3 := hide (HK2.out.trans hk3 (fun _ _ h => h)); have HB3 := hide (hk3.blk HB2.out (fun h => h)); have HW3 := hide (hk3.blk HW2.out (fun h => h)); have c0 : w3.cell? ⟨w.heap.size, 0, none⟩ = some (.int .i64 n) := HB3.out.cell 0; have c2 : w3.cell? ⟨w.heap.size, 2, none⟩ = some (.slice ao len cap) := HB3.out.cell 2; clear hk3)
        | ((with_reducible refine aw_load (M := [.int .i64 n, .int .i64 la, .slice ao len cap]) Try.agg30 rfl HB3.out (by simp [Value.cells]) rfl ?_))
        | ((with_reducible refine aw_store (M := [.int .i64 n, .int .i64 la, .slice ao len cap]) Try.agg30 rfl rfl rfl (by simp [Value.oneCell']) HW3.out (by simp [Value.cells]) ?_); intro w4 hw4 hk4 hz4; rw [put_whole _ _ (by simp [Value.cells])] at hw4; have HW4 := hide hw4; have HK4 := hide (HK3.out.trans hk4 (S := fun _ => False) (fun i hi h => by have := Hz1.out; omega)); clear hz4 hw4 hk4))
      refine bodyPost_ret (results_cb rfl Try.agg30 rfl HW4.out rfl rfl) rfl ?_
      exact ⟨rfl, HK4.out⟩
    refine H.mono ?_
    rintro e w' ⟨rfl, hk⟩
    exact ⟨by rw [← hr]; simp, hk⟩
  | true =>
    rw [hh] at HA hr
    have HA : Hid (∀ w', Kept (fun _ => False) w w' → Calls Try.prog 29 #[.agg #[.int .i64 n, .int .i64 la, .slice ao len cap], .int .i64 t] w' fun e w'' => e = .returned (.int .i64 (p : Int)) ∧ Kept (fun _ => False) w' w'') := HA
    clear hh
    by_cases h1 : k < 0
    · skip
      have H : Calls Try.prog 15 #[.agg #[.int .i64 n, .int .i64 la, .slice ao len cap], .int .i64 t, .int .i64 k, .slice da dn dc] w fun e w' => e = .returned (.tuple #[.agg #[.int .i64 n, .int .i64 la, .slice ao len cap], .int .i64 41]) ∧ Kept (fun _ => False) w w' := by
        go_enter Try.func15, Try.ntmps15
        go_wp2_with (first
          | ((with_reducible refine aw_box (t := 30) (v := .agg #[.int .i64 n, .int .i64 la, .slice ao len cap]) rfl ?_); intro w1 hb1 hk1 hz1; have HK1 := hide hk1; have HB1 := hide hb1; have Hz1 := hide hz1; clear hk1 hz1 hb1)
          | ((with_reducible refine aw_alloc (t := 30) (dst := some 8) Hi0.out Hz0.out ?_); intro w2 hw2 hk2 hz2; have HK2 := hide (HK1.out.trans hk2 (fun _ _ h => h)); have HB2 := hide (hk2.blk HB1.out (fun h => h)); have HW2 : Hid (Blk w2 w1.heap.size [.int .i64 0, .int .i64 0, .slice none 0 0] 30) := hide hw2; have Hz2 := hide hz2; clear hz2 hw2 hk2)
          | ((with_reducible refine aw_load (M := [.int .i64 n, .int .i64 la, .slice ao len cap]) Try.agg30 rfl HB2.out (by simp [Value.cells]) rfl ?_))
          | (go_at_call 29; refine (HA.out w2 HK2.out).mono ?_; rintro e w3 ⟨rfl, hk3⟩; have HK3 := hide (HK2.out.trans hk3 (fun _ _ h => h)); have HB3 := hide (hk3.blk HB2.out (fun h => h)); have HW3 := hide (hk3.blk HW2.out (fun h => h)); have c0 : w3.cell? ⟨w.heap.size, 0, none⟩ = some (.int .i64 n) := HB3.out.cell 0; have c2 : w3.cell? ⟨w.heap.size, 2, none⟩ = some (.slice ao len cap) := HB3.out.cell 2; clear hk3)
          | ((with_reducible refine aw_load (M := [.int .i64 n, .int .i64 la, .slice ao len cap]) Try.agg30 rfl HB3.out (by simp [Value.cells]) rfl ?_))
          | ((with_reducible refine aw_store (M := [.int .i64 n, .int .i64 la, .slice ao len cap]) Try.agg30 rfl rfl rfl (by simp [Value.oneCell']) HW3.out (by simp [Value.cells]) ?_); intro w4 hw4 hk4 hz4; rw [put_whole _ _ (by simp [Value.cells])] at hw4; have HW4 := hide hw4; have HK4 := hide (HK3.out.trans hk4 (S := fun _ => False) (fun i hi h => by have := Hz1.out; omega)); clear hz4 hw4 hk4))
        refine bodyPost_ret (results_cb rfl Try.agg30 rfl HW4.out rfl rfl) rfl ?_
        exact ⟨rfl, HK4.out⟩
      refine H.mono ?_
      rintro e w' ⟨rfl, hk⟩
      exact ⟨by rw [← hr]; simp [h1], hk⟩
    · by_cases h2 : n ≤ k
      · skip
        have H : Calls Try.prog 15 #[.agg #[.int .i64 n, .int .i64 la, .slice ao len cap], .int .i64 t, .int .i64 k, .slice da dn dc] w fun e w' => e = .returned (.tuple #[.agg #[.int .i64 n, .int .i64 la, .slice ao len cap], .int .i64 41]) ∧ Kept (fun _ => False) w w' := by
          go_enter Try.func15, Try.ntmps15
          go_wp2_with (first
            | ((with_reducible refine aw_box (t := 30) (v := .agg #[.int .i64 n, .int .i64 la, .slice ao len cap]) rfl ?_); intro w1 hb1 hk1 hz1; have HK1 := hide hk1; have HB1 := hide hb1; have Hz1 := hide hz1; clear hk1 hz1 hb1)
            | ((with_reducible refine aw_alloc (t := 30) (dst := some 8) Hi0.out Hz0.out ?_); intro w2 hw2 hk2 hz2; have HK2 := hide (HK1.out.trans hk2 (fun _ _ h => h)); have HB2 := hide (hk2.blk HB1.out (fun h => h)); have HW2 : Hid (Blk w2 w1.heap.size [.int .i64 0, .int .i64 0, .slice none 0 0] 30) := hide hw2; have Hz2 := hide hz2; clear hz2 hw2 hk2)
            | ((with_reducible refine aw_load (M := [.int .i64 n, .int .i64 la, .slice ao len cap]) Try.agg30 rfl HB2.out (by simp [Value.cells]) rfl ?_))
            | (go_at_call 29; refine (HA.out w2 HK2.out).mono ?_; rintro e w3 ⟨rfl, hk3⟩; have HK3 := hide (HK2.out.trans hk3 (fun _ _ h => h)); have HB3 := hide (hk3.blk HB2.out (fun h => h)); have HW3 := hide (hk3.blk HW2.out (fun h => h)); have c0 : w3.cell? ⟨w.heap.size, 0, none⟩ = some (.int .i64 n) := HB3.out.cell 0; have c2 : w3.cell? ⟨w.heap.size, 2, none⟩ = some (.slice ao len cap) := HB3.out.cell 2; clear hk3)
            | ((with_reducible refine aw_load (M := [.int .i64 n, .int .i64 la, .slice ao len cap]) Try.agg30 rfl HB3.out (by simp [Value.cells]) rfl ?_))
            | ((with_reducible refine aw_store (M := [.int .i64 n, .int .i64 la, .slice ao len cap]) Try.agg30 rfl rfl rfl (by simp [Value.oneCell']) HW3.out (by simp [Value.cells]) ?_); intro w4 hw4 hk4 hz4; rw [put_whole _ _ (by simp [Value.cells])] at hw4; have HW4 := hide hw4; have HK4 := hide (HK3.out.trans hk4 (S := fun _ => False) (fun i hi h => by have := Hz1.out; omega)); clear hz4 hw4 hk4))
          refine bodyPost_ret (results_cb rfl Try.agg30 rfl HW4.out rfl rfl) rfl ?_
          exact ⟨rfl, HK4.out⟩
        refine H.mono ?_
        rintro e w' ⟨rfl, hk⟩
        exact ⟨by rw [← hr]; simp [h1, h2], hk⟩
      · have hd : ¬ dn = 64 := fun e => hr0 (by rw [← hr]; simp [h1, h2, e])
        have hdI : ¬ ((dn : Nat) : Int) = 64 := by omega
        have H : Calls Try.prog 15 #[.agg #[.int .i64 n, .int .i64 la, .slice ao len cap], .int .i64 t, .int .i64 k, .slice da dn dc] w fun e w' => e = .returned (.tuple #[.agg #[.int .i64 n, .int .i64 la, .slice ao len cap], .int .i64 42]) ∧ Kept (fun _ => False) w w' := by
          go_enter Try.func15, Try.ntmps15
          go_wp2_with (first
            | ((with_reducible refine aw_box (t := 30) (v := .agg #[.int .i64 n, .int .i64 la, .slice ao len cap]) rfl ?_); intro w1 hb1 hk1 hz1; have HK1 := hide hk1; have HB1 := hide hb1; have Hz1 := hide hz1; clear hk1 hz1 hb1)
            | ((with_reducible refine aw_alloc (t := 30) (dst := some 8) Hi0.out Hz0.out ?_); intro w2 hw2 hk2 hz2; have HK2 := hide (HK1.out.trans hk2 (fun _ _ h => h)); have HB2 := hide (hk2.blk HB1.out (fun h => h)); have HW2 : Hid (Blk w2 w1.heap.size [.int .i64 0, .int .i64 0, .slice none 0 0] 30) := hide hw2; have Hz2 := hide hz2; clear hz2 hw2 hk2)
            | ((with_reducible refine aw_load (M := [.int .i64 n, .int .i64 la, .slice ao len cap]) Try.agg30 rfl HB2.out (by simp [Value.cells]) rfl ?_))
            | (go_at_call 29; refine (HA.out w2 HK2.out).mono ?_; rintro e w3 ⟨rfl, hk3⟩; have HK3 := hide (HK2.out.trans hk3 (fun _ _ h => h)); have HB3 := hide (hk3.blk HB2.out (fun h => h)); have HW3 := hide (hk3.blk HW2.out (fun h => h)); have c0 : w3.cell? ⟨w.heap.size, 0, none⟩ = some (.int .i64 n) := HB3.out.cell 0; have c2 : w3.cell? ⟨w.heap.size, 2, none⟩ = some (.slice ao len cap) := HB3.out.cell 2; clear hk3)
            | ((with_reducible refine aw_load (M := [.int .i64 n, .int .i64 la, .slice ao len cap]) Try.agg30 rfl HB3.out (by simp [Value.cells]) rfl ?_))
            | ((with_reducible refine aw_store (M := [.int .i64 n, .int .i64 la, .slice ao len cap]) Try.agg30 rfl rfl rfl (by simp [Value.oneCell']) HW3.out (by simp [Value.cells]) ?_); intro w4 hw4 hk4 hz4; rw [put_whole _ _ (by simp [Value.cells])] at hw4; have HW4 := hide hw4; have HK4 := hide (HK3.out.trans hk4 (S := fun _ => False) (fun i hi h => by have := Hz1.out; omega)); clear hz4 hw4 hk4))
          refine bodyPost_ret (results_cb rfl Try.agg30 rfl HW4.out rfl rfl) rfl ?_
          exact ⟨rfl, HK4.out⟩
        refine H.mono ?_
        rintro e w' ⟨rfl, hk⟩
        exact ⟨by rw [← hr]; simp [h1, h2, hd], hk⟩

set_option maxHeartbeats 4000000 in
theorem rwrite_row (w : World) (n la : Int) (v : Value) (l : List EntB) (h : SrcEB w v l) (hs : Sorted ltI l) (hl : l.length ≤ 1000) (t k : Int) (hh : hasK ltI l t = true) (h1 : ¬ k < 0) (h2 : ¬ n ≤ k) (cs : Sl) (cw : List Wv) (hcs : getKW l t = cs) (hcw : WsAt w cs.v cw) (hcl : cw.length ≤ 1000) (da : Option Addr) (dc : Nat) (B : List Nat) (hd : Src w (.slice da 64 dc) B) :
    Calls Try.prog 15 #[.agg #[.int .i64 n, .int .i64 la, v], .int .i64 t, .int .i64 k, .slice da 64 dc] w fun e w' => ∃ (v' : Value) (s : Sl) (ws : List Wv), e = .returned (.tuple #[.agg #[.int .i64 n, .int .i64 la, v'], .int .i64 0]) ∧ TxRow w' v' (putK ltI l t s) ∧ (∀ k, v'.ownBlock = some k → w.heap.size ≤ k) ∧ WsRow w' s.v ws ∧ (∀ k, s.v.ownBlock = some k → w.heap.size ≤ k) ∧ ws.map Wv.wr = mergeW (cw.map Wv.wr ++ [⟨k, B⟩]) ∧ (∀ x ∈ ws, x ∈ cw ∨ x = ⟨k, ⟨da, 64, dc⟩, B⟩) ∧ Kept (fun _ => False) w w' := by
  have hp := hasK_lt hh
  have hkey := hasK_key strictI hh
  have hput : ∀ s, putK ltI l t s = l.set (posK ltI l t) (t, s) := fun s => by unfold putK; rw [if_pos hh]
  simp only [hput]
  rw [getK_hasW hh] at hcs
  have hcs2 : (l[posK ltI l t]'hp).2 = cs := hcs
  clear hcs
  have hcs := hcs2
  clear hcs2
  have HA : Hid (∀ w', Kept (fun _ => False) w w' → Calls Try.prog 29 #[.agg #[.int .i64 n, .int .i64 la, v], .int .i64 t] w' fun e w'' => e = .returned (.int .i64 ((posK ltI l t : Nat) : Int)) ∧ Kept (fun _ => False) w' w'') := hide (fun w' hk => rat_at w' n la v l (h.kept hk) hs hl t _ (by unfold atK; rw [hh]; rfl))
  have HSE := hide h
  obtain ⟨ao, cap, rfl⟩ := h.sl
  have HEnc : Hid (∀ s : Sl, encE ekB evB (l.set (posK ltI l t) (t, s)) = (encE ekB evB l).set (posK ltI l t * 2 + 1) (evB s)) := hide (fun s => by
    have := encE_set (ek := ekB) (ev := evB) l (posK ltI l t) hp s
    rw [hkey] at this
    exact this)
  clear h hs hh hkey hput
  obtain ⟨i0, hi0, hz0, hs0, hb0⟩ := info_parts Try.info30
  have Hi0 := hide hi0
  have Hz0 := hide hz0
  obtain ⟨iX, hiX, hzX, hsX, hbX⟩ := info_parts Try.info57
  have HiX := hide hiX
  have HzX := hide hzX
  have HsX := hide hsX
  obtain ⟨iS, hiS, hzS, hsS, hbS⟩ := info_parts Try.info28
  have HiS := hide hiS
  have HsS := hide hsS
  clear hi0 hz0 hs0 hb0 hiX hzX hsX hbX hiS hzS hsS hbS
  obtain ⟨i2, hi2, hz2, hs2, hb2⟩ := info_parts Try.info63
  obtain ⟨i3, hi3, hz3, hs3, hb3⟩ := info_parts Try.info33
  have HiW := hide hi2
  have HzW := hide hz2
  have HsW := hide hs2
  have Hi3 := hide hi3
  have Hz3 := hide hz3
  have Hs3 := hide hs3
  clear hi2 hz2 hs2 hb2 hi3 hz3 hs3 hb3
  obtain ⟨i, hi⟩ : ∃ i, posK ltI l t = i := ⟨_, rfl⟩
  obtain ⟨ca, cn, cc⟩ := cs
  obtain rfl : cn = cw.length := WsAt.len hcw
  have hci : l[i]? = some (l[i]'(by omega)) := List.getElem?_eq_getElem (by omega)
  have HVal : Hid ((encE ekB evB l)[i * 2 + 1]? = some (.slice ca cw.length cc)) := hide (by
    have := encE_val (ek := ekB) (ev := evB) l i (by omega)
    rw [this]
    have e : (l[i]'(by omega)).2 = ⟨ca, cw.length, cc⟩ := by rw [← hcs]; congr 1; congr 1; exact hi.symm
    rw [e])
  simp only [hi] at HA HEnc hp ⊢
  have HCw := hide hcw
  have HSd := hide hd
  clear hcs hi hci hcw hd
  obtain ⟨len, hlen⟩ : ∃ len, len = l.length := ⟨_, rfl⟩
  rw [← hlen] at HA HSE hp hl ⊢
  have HLen := hide hlen
  clear hlen
  have hi0I : ¬ ((i : Nat) : Int) < 0 := by omega
  have HV : Hid ((cw ++ [(⟨k, ⟨da, 64, dc⟩, B⟩ : Wv)]).length ≤ 1000000) := hide (by simp; omega)
  go_enter Try.func15, Try.ntmps15
  go_wp2_with (first
    | ((with_reducible refine aw_box (t := 30) (v := .agg #[.int .i64 n, .int .i64 la, .slice ao len cap]) rfl ?_); intro w1 hb1 hk1 hz1; have HK1 := hide hk1; have HB1 := hide hb1; have Hz1 := hide hz1; clear hk1 hz1 hb1)
    | ((with_reducible refine aw_alloc (t := 30) (dst := some 8) Hi0.out Hz0.out ?_); intro w2 hw2 hk2 hz2; have HK2 := hide (HK1.out.trans hk2 (fun _ _ h => h)); have HB2 := hide (hk2.blk HB1.out (fun h => h)); have HW2 : Hid (Blk w2 w1.heap.size [.int .i64 0, .int .i64 0, .slice none 0 0] 30) := hide hw2; have Hz2 := hide hz2; clear hz2 hw2 hk2)
    | ((with_reducible refine aw_load (M := [.int .i64 n, .int .i64 la, .slice ao len cap]) Try.agg30 rfl HB2.out (by simp [Value.cells]) rfl ?_))
    | (go_at_call 29; refine (HA.out w2 HK2.out).mono ?_; rintro e w3 ⟨rfl, hk3⟩; have HK3 := hide (HK2.out.trans hk3 (fun _ _ h => h)); have HB3 := hide (hk3.blk HB2.out (fun h => h)); have HW3 := hide (hk3.blk HW2.out (fun h => h)); have c0 : w3.cell? ⟨w.heap.size, 0, none⟩ = some (.int .i64 n) := HB3.out.cell 0; have c2 : w3.cell? ⟨w.heap.size, 2, none⟩ = some (.slice ao len cap) := HB3.out.cell 2; clear hk3)
    | (with_reducible refine stop_bs 28 ?_))
  refine hide ?_
  refine wpList_run rfl (r_bs0T) ?_
  have hb1 := Blk.new w3 [] 57
  rw [show (([] : List Value).toArray) = #[] from rfl] at hb1
  have hka1 : Kept (fun _ => False) w3 (w3.alloc (.cells #[] 57)) := Kept.alloc _ _ _
  obtain ⟨g1, hg1⟩ : ∃ g, w3.heap.size = g := ⟨_, rfl⟩
  rw [hg1] at hb1 ⊢
  generalize w3.alloc (.cells #[] 57) = u1 at hb1 hka1 ⊢
  have hr1 := TxRow.nil0 hb1
  obtain ⟨v2, u2, hrun2, hr2, hka2, hob2⟩ := hr1.app (HSE.out.kept (HK3.out.trans hka1 (fun _ _ h => h))) (by have := HLen.out; simp; omega) 28
  rw [List.nil_append] at hr2
  have hk32 : Kept (fun _ => False) w3 u2 := hka1.trans hka2 (fun j hj h => by simp [Value.ownBlock] at h; omega)
  have hn2 : ∀ j, v2.ownBlock = some j → w3.heap.size ≤ j := fun j hj => by
    rcases hob2 with h | h
    · rw [h] at hj; simp [Value.ownBlock] at hj; omega
    · rw [h] at hj; cases hj; exact hka1.size
  have hB3 : Blk w3 w.heap.size [.int .i64 n, .int .i64 la, .slice ao len cap] 30 := HB3.out
  have d2 : u1.cell? ⟨w.heap.size, 2, none⟩ = some (.slice ao len cap) := (hka1.blk hB3 (fun h => h)).cell 2
  rcases ownsRow_blk hr2 with ⟨_, h0, _⟩ | ⟨g5, c5, C5, ev, hbe, hnc, hcm, hC⟩
  · have := HLen.out; omega
  subst ev
  rw [← HLen.out] at hrun2 hn2 hnc hC
  have HR2 := hide hrun2
  have HB5 := hide (hk32.blk hB3 (fun h => h))
  have HW5 := hide (hk32.blk HW3.out (fun h => h))
  have HK5 := hide (HK3.out.trans hk32 (fun _ _ h => h))
  have HE5 := hide hbe
  have HG5 : Hid (w3.heap.size ≤ g5 ∧ len ≤ c5 ∧ c5 ≤ maxLen ∧ C5.length = (c5 - len) * 2) := hide ⟨hn2 g5 rfl, hnc, hcm, hC⟩
  have Hlt3 : Hid (w.heap.size < w3.heap.size ∧ w1.heap.size < w3.heap.size) := hide ⟨hB3.lt, HW3.out.lt⟩
  clear c0 c2 hb1 hka1 hg1 hr1 hrun2 hr2 hka2 hob2 hk32 hn2 hbe hnc hcm hC hB3
  simp only [put_lit, put_none, List.set_cons_succ, List.set_cons_zero]
  go_wp2_with (first
    | (with_reducible refine stop_app2 28 28 ?_)
    | fail)
  refine hide ?_
  refine wpList_run rfl (r_app rfl rfl HR2.out) ?_
  clear HR2 d2
  have g2 : u2.cell? ⟨w.heap.size, 2, none⟩ = some (.slice ao len cap) := HB5.out.cell 2
  have f2 : u2.frozen? ⟨w.heap.size, 2, none⟩ = false := HB5.out.frozen 2
  simp only [put_lit, put_none, List.set_cons_succ, List.set_cons_zero]
  go_wp2
  have hbb : Blk (u2.setCell ⟨w.heap.size, 2, none⟩ (.slice (some ⟨g5, 0, none⟩) len c5)) w.heap.size [.int .i64 n, .int .i64 la, .slice (some ⟨g5, 0, none⟩) len c5] 30 := HB5.out.setCell 2 (.slice (some ⟨g5, 0, none⟩) len c5)
  have hkk := Kept.setCell (S := fun k => k = w.heap.size) u2 ⟨w.heap.size, 2, none⟩ (.slice (some ⟨g5, 0, none⟩) len c5) rfl
  generalize u2.setCell ⟨w.heap.size, 2, none⟩ (.slice (some ⟨g5, 0, none⟩) len c5) = w6 at hbb hkk ⊢
  have HNe : Hid (w1.heap.size ≠ w.heap.size ∧ g5 ≠ w.heap.size ∧ g5 ≠ w1.heap.size) := hide ⟨by have := Hz1.out; omega, by have := HG5.out.1; have := Hlt3.out.1; omega, by have := HG5.out.1; have := Hlt3.out.2; omega⟩
  have HB6 := hide hbb
  have HE6 := hide (hkk.blk HE5.out (fun e => HNe.out.2.1 e))
  have HW6 := hide (hkk.blk HW5.out (fun e => HNe.out.1 e))
  have HK6 := hide (HK5.out.trans hkk (fun i hi h => by omega))
  clear g2 f2 hbb hkk HE5 HW5 HB5
  refine hold_frame (p := fun fr => Code.wp Try.prog _ _ fr _) ?_
  intro fr hfr
  have e4 : fr.eval (.tmp 4) = .pointer (some ⟨w.heap.size, 0, none⟩) := by rw [hfr.out]; rfl
  have e10 : fr.eval (.tmp 10) = .int .i64 ((i : Nat) : Int) := by rw [hfr.out]; rfl
  have e2 : fr.eval (.tmp 2) = .int .i64 k := by rw [hfr.out]; rfl
  have e3 : fr.eval (.tmp 3) = .slice da 64 dc := by rw [hfr.out]; rfl
  have hts : fr.tmps.size = 53 := by rw [hfr.out]; rfl
  refine region_S0 17 Try.mixed ?_
  intro w0 hkw hheap
  have hB0 := hkw.blk HB6.out (fun h => h)
  have hE0 := hkw.blk HE6.out (fun h => h)
  have hS0 : Kept (fun _ => False) w0 w0 := Kept.refl _ w0
  have hv0 : ∀ U, Kept (fun _ => False) w0 U → U.cell? ⟨g5, 0 + i * 2 + 1, none⟩ = some (.slice ca cw.length cc) := fun U hU => by
    rw [Nat.zero_add, (hU.blk hE0 (fun h => h)).cell, List.getElem?_append_left (by rw [encE_length, ← HLen.out]; omega)]
    exact HVal.out
  refine ⟨Kept (fun _ => False) w0, ?_⟩
  refine tkS 0 35 (v := .pointer (some ⟨w.heap.size, 2, none⟩)) hS0 rfl rfl (by kernel_rfl) (by kernel_rfl) (by kernel_rfl) (by kernel_rfl) (wanted_none rfl) (fun _ _ _ h => h) (fun U hU => r_fK2 (by simp [eval_put_ne, eval_put_eq, size_put, hts, e4])) ?_
  refine tkS 1 36 (v := .slice (some ⟨g5, 0, none⟩) len c5) hS0 rfl rfl (by kernel_rfl) (by kernel_rfl) (by kernel_rfl) (by kernel_rfl) (wanted_none rfl) (fun _ _ _ h => h) (fun U hU => r_ldTS (by simp [eval_put_ne, eval_put_eq, size_put, hts]) ((hU.blk hB0 (fun h => h)).cell 2)) ?_
  refine tkS 2 37 (v := .int .i64 ((i : Nat) : Int)) hS0 rfl rfl (by kernel_rfl) (by kernel_rfl) (by kernel_rfl) (by kernel_rfl) (wanted_none rfl) (fun _ _ _ h => h) (fun U hU => r_move (by simp [eval_put_ne, eval_put_eq, size_put, hts, e10])) ?_
  refine tkS 3 38 (v := .pointer (some ⟨w.heap.size, 2, none⟩)) hS0 rfl rfl (by kernel_rfl) (by kernel_rfl) (by kernel_rfl) (by kernel_rfl) (wanted_none rfl) (fun _ _ _ h => h) (fun U hU => r_fK2 (by simp [eval_put_ne, eval_put_eq, size_put, hts, e4])) ?_
  refine tkS 4 39 (v := .slice (some ⟨g5, 0, none⟩) len c5) hS0 rfl rfl (by kernel_rfl) (by kernel_rfl) (by kernel_rfl) (by kernel_rfl) (wanted_none rfl) (fun _ _ _ h => h) (fun U hU => r_ldTS (by simp [eval_put_ne, eval_put_eq, size_put, hts]) ((hU.blk hB0 (fun h => h)).cell 2)) ?_
  refine tkS 5 40 (v := .int .i64 ((i : Nat) : Int)) hS0 rfl rfl (by kernel_rfl) (by kernel_rfl) (by kernel_rfl) (by kernel_rfl) (wanted_none rfl) (fun _ _ _ h => h) (fun U hU => r_move (by simp [eval_put_ne, eval_put_eq, size_put, hts, e10])) ?_
  refine tkS 6 41 (v := .pointer (some ⟨g5, 0 + i * 2, none⟩)) hS0 rfl rfl (by kernel_rfl) (by kernel_rfl) (by kernel_rfl) (by kernel_rfl) (wanted_none rfl) (fun _ _ _ h => h) (fun U hU => r_ixT (b := g5) (off := 0) (len := len) (cap := c5) (kk := .i64) i (by simp [eval_put_ne, eval_put_eq, size_put, hts]) (by simp [eval_put_ne, eval_put_eq, size_put, hts]) hp) ?_
  refine tkS 7 42 (v := .pointer (some ⟨g5, 0 + i * 2 + 1, none⟩)) hS0 rfl rfl (by kernel_rfl) (by kernel_rfl) (by kernel_rfl) (by kernel_rfl) (wanted_none rfl) (fun _ _ _ h => h) (fun U hU => r_fX1 (by simp [eval_put_ne, eval_put_eq, size_put, hts])) ?_
  refine tkS 8 43 (v := .slice ca cw.length cc) hS0 rfl rfl (by kernel_rfl) (by kernel_rfl) (by kernel_rfl) (by kernel_rfl) (wanted_none rfl) (fun _ _ _ h => h) (fun U hU => r_ldWS (by simp [eval_put_ne, eval_put_eq, size_put, hts]) (hv0 U hU)) ?_
  refine tkS 9 44 (v := .int .i64 k) hS0 rfl rfl (by kernel_rfl) (by kernel_rfl) (by kernel_rfl) (by kernel_rfl) (wanted_none rfl) (fun _ _ _ h => h) (fun U hU => r_move (by simp [eval_put_ne, eval_put_eq, size_put, hts, e2])) ?_
  refine tkS 10 45 (v := .slice da 64 dc) hS0 rfl rfl (by kernel_rfl) (by kernel_rfl) (by kernel_rfl) (by kernel_rfl) (wanted_none rfl) (fun _ _ _ h => h) (fun U hU => r_move (by simp [eval_put_ne, eval_put_eq, size_put, hts, e3])) ?_
  refine tkS 11 46 (v := .agg #[.int .i64 k, .slice da 64 dc]) hS0 rfl rfl (by kernel_rfl) (by kernel_rfl) (by kernel_rfl) (by kernel_rfl) (wanted_none rfl) (fun _ _ _ h => h) (fun U hU => built40 (by simp [eval_put_ne, eval_put_eq, size_put, hts]) (by simp [eval_put_ne, eval_put_eq, size_put, hts])) ?_
  have hb3 := Blk.new w0 [.int .i64 k, .slice da 64 dc] 63
  have hk3 : Kept (fun _ => False) w0 (w0.alloc (.cells [.int .i64 k, .slice da 64 dc].toArray 63)) := Kept.alloc _ _ _
  refine oneVS 12 47 (v := .slice (some ⟨w0.heap.size, 0, none⟩) 1 1) (by kernel_rfl) rfl rfl (wanted_none rfl) (run_buildSlice_one (M := [.int .i64 k, .slice da 64 dc]) Try.underlying33 HiW.out HzW.out HsW.out (by simp) (by simp) (.inl (by simp [eval_put_ne, eval_put_eq, size_put, hts]))) hk3 ?_
  obtain ⟨gw, hgw⟩ : ∃ g, w0.heap.size = g := ⟨_, rfl⟩
  rw [hgw] at hb3 ⊢
  generalize w0.alloc (.cells [.int .i64 k, .slice da 64 dc].toArray 63) = u3 at hb3 hk3 ⊢
  have hkW3 := (HK6.out.trans hkw (fun _ _ h => h)).trans hk3 (fun _ _ h => h)
  have HW3' : Hid (WsAt u3 (.slice (some ⟨gw, 0, none⟩) 1 1) [⟨k, ⟨da, 64, dc⟩, B⟩]) := hide (by
    refine ⟨⟨_, 1, rfl, Nat.le_refl _, fun _ => ⟨_, 0, rfl, ?_⟩⟩, ?_, by simp⟩
    · have := hb3.cells 0 2
      simpa [encE, Wv.ent] using this
    · intro x hx
      simp at hx
      subst hx
      exact HSd.out.kept hkW3)
  have hb4 := Blk.new u3 [.slice ca cw.length cc, .slice (some ⟨gw, 0, none⟩) 1 1] 33
  have hk4 : Kept (fun _ => False) u3 (u3.alloc (.cells [.slice ca cw.length cc, .slice (some ⟨gw, 0, none⟩) 1 1].toArray 33)) := Kept.alloc _ _ _
  have hk34 := hk3.trans hk4 (fun _ _ h => h)
  refine oneVS 13 48 (v := .slice (some ⟨u3.heap.size, 0, none⟩) 2 2) (by kernel_rfl) rfl rfl (wanted_none rfl) (run_buildSlice_two (v1 := .slice ca cw.length cc) (v2 := .slice (some ⟨gw, 0, none⟩) 1 1) (M1 := [.slice ca cw.length cc]) (M2 := [.slice (some ⟨gw, 0, none⟩) 1 1]) Try.underlying78 Hi3.out Hz3.out Hs3.out (by simp) (by simp) rfl (by simp [eval_put_ne, eval_put_eq, size_put, hts]) (by simp [eval_put_ne, eval_put_eq, size_put, hts]) (by simp [Value.cells]) (by simp [Value.cells])) hk34 ?_
  obtain ⟨gl, hgl⟩ : ∃ g, u3.heap.size = g := ⟨_, rfl⟩
  rw [hgl] at hb4 ⊢
  have hcat : ([.slice ca cw.length cc] ++ [.slice (some ⟨gw, 0, none⟩) 1 1] : List Value) = [.slice ca cw.length cc, .slice (some ⟨gw, 0, none⟩) 1 1] := rfl
  rw [hcat]
  generalize u3.alloc (.cells [.slice ca cw.length cc, .slice (some ⟨gw, 0, none⟩) 1 1].toArray 33) = u4 at hb4 hk4 hk34 ⊢
  have HLs : Hid (LsAt u4 (.slice (some ⟨gl, 0, none⟩) 2 2) [((⟨ca, cw.length, cc⟩ : Sl), cw), ((⟨some ⟨gw, 0, none⟩, 1, 1⟩ : Sl), [⟨k, ⟨da, 64, dc⟩, B⟩])]) := hide (ls_blk hb4 rfl (fun x hx => by
    simp only [List.mem_cons, List.not_mem_nil, or_false] at hx
    rcases hx with rfl | rfl
    · exact HCw.out.kept (hkW3.trans hk4 (fun _ _ h => h))
    · exact HW3'.out.kept hk4) 2 rfl (by decide))
  have hav : allV [((⟨ca, cw.length, cc⟩ : Sl), cw), ((⟨some ⟨gw, 0, none⟩, 1, 1⟩ : Sl), [(⟨k, ⟨da, 64, dc⟩, B⟩ : Wv)])] = cw ++ [⟨k, ⟨da, 64, dc⟩, B⟩] := by simp [allV]
  refine oneCS 14 49 (by kernel_rfl) rfl rfl (wanted_none rfl) (r_call1 Try.func30 (by kernel_rfl) rfl rfl (by simp [eval_put_ne, eval_put_eq, size_put, hts])) (rmerge_at u4 _ _ HLs.out (by rw [hav]; exact HV.out)) ?_
  rintro e u5 ⟨⟨ta, tn, tc⟩, ws, rfl, hwsat, hwr, hk5, hrow, hge, hmem⟩
  rw [hav] at hwr hmem
  have hk05 := hk34.trans hk5 (fun _ _ h => h)
  refine ⟨_, rfl, hk05, ?_⟩
  refine oneVS 15 50 (v := .pointer (some ⟨g5, 0 + i * 2, none⟩)) (by kernel_rfl) rfl rfl (wanted_none rfl) (r_ixT (b := g5) (off := 0) (len := len) (cap := c5) (kk := .i64) i (by simp [eval_put_ne, eval_put_eq, size_put, hts]) (by simp [eval_put_ne, eval_put_eq, size_put, hts]) hp) hk05 ?_
  refine oneVS 16 51 (v := .pointer (some ⟨g5, 0 + i * 2 + 1, none⟩)) (by kernel_rfl) rfl rfl (wanted_none rfl) (r_fX1 (by simp [eval_put_ne, eval_put_eq, size_put, hts])) hk05 ?_
  have hE5 := hk05.blk hE0 (fun h => h)
  refine lastS (by kernel_rfl) rfl (wanted_none rfl) (run_store_one (v := .slice ta tn tc) (off := 0 + i * 2 + 1) Hi3.out Hs3.out (by simp [eval_put_ne, eval_put_eq, size_put, hts]) (by simp [eval_put_ne, eval_put_eq, size_put, hts]) rfl rfl hE5 (by rw [List.length_append, encE_length, ← HLen.out]; omega)) (by kernel_rfl) ?_
  have hE9 := hE5.setRow (List.set (encE ekB evB l ++ C5) (0 + i * 2 + 1) (.slice ta tn tc))
  have hk9 := Kept.setRow (S := fun k => k = g5) u5 g5 (List.set (encE ekB evB l ++ C5) (0 + i * 2 + 1) (.slice ta tn tc)).toArray rfl
  generalize u5.setRow g5 (List.set (encE ekB evB l ++ C5) (0 + i * 2 + 1) (.slice ta tn tc)).toArray = w9 at hE9 hk9 ⊢
  have hsz0 : w.heap.size ≤ w0.heap.size ∧ w0.heap.size ≤ u4.heap.size := ⟨(HK6.out.trans hkw (fun _ _ h => h)).size, hk34.size⟩
  have HT9 : Hid (TxRow w9 (.slice (some ⟨g5, 0, none⟩) len c5) (l.set i (t, ⟨ta, tn, tc⟩))) := hide (by
    have hE9' := hE9
    rw [Nat.zero_add, List.set_append_left _ _ (by rw [encE_length, ← HLen.out]; omega), ← HEnc.out ⟨ta, tn, tc⟩] at hE9'
    unfold TxRow
    rw [List.length_set, ← HLen.out]
    exact ownsRow_of hE9' (by rw [encE_length, List.length_set, ← HLen.out]) HG5.out.2.1 HG5.out.2.2.1 HG5.out.2.2.2)
  have HB9 := hide (((hk05.mono (T := fun k => k = g5) (fun _ _ h => h.elim)).trans hk9 (fun _ _ h => h)).blk hB0 (fun e => HNe.out.2.1 e.symm))
  have hk69 : Kept (fun k => k = g5) w6 w9 := ((hkw.mono (T := fun k => k = g5) (fun _ _ h => h.elim)).trans hk05 (fun _ _ h => h.elim)).trans hk9 (fun _ _ h => h)
  have HW9 := hide (hk69.blk HW6.out (fun e => HNe.out.2.2 e.symm))
  have HK9 := hide (HK6.out.trans hk69 (fun i hi h => by have := HG5.out.1; have := Hlt3.out.1; omega))
  have HWs9 := hide (hrow.kept hk9 (fun j hj e => by subst e; exact ownsRow_blk_ne hrow hE5 (by decide) hj))
  have HGe9 : Hid (∀ j, (Value.slice ta tn tc).ownBlock = some j → w.heap.size ≤ j) := hide (fun j hj => by have := hge j hj; omega)
  have HWr := hide hwr
  have HMem := hide hmem
  have HG9 : Hid (w.heap.size ≤ g5) := hide (by have := HG5.out.1; have := Hlt3.out.1; omega)
  rw [hfr.out]
  clear hfr e4 e10 e2 e3 hts hkw hheap hB0 hE0 hS0 hv0 hb3 hk3 hgw hkW3 HW3' hb4 hk4 hk34 hgl hcat HLs hav hwsat hwr hk5 hrow hge hmem hk05 hE5 hE9 hk9 hsz0 hk69 HB6 HE6 HW6
  simp only [put_lit, put_none, List.set_cons_succ, List.set_cons_zero]
  go_wp2_with (first
    | ((with_reducible refine aw_load (M := [.int .i64 n, .int .i64 la, .slice (some ⟨g5, 0, none⟩) len c5]) Try.agg30 rfl HB9.out (by simp [Value.cells]) rfl ?_))
    | ((with_reducible refine aw_store (M := [.int .i64 n, .int .i64 la, .slice (some ⟨g5, 0, none⟩) len c5]) Try.agg30 rfl rfl rfl (by simp [Value.oneCell']) HW9.out (by simp [Value.cells]) ?_); intro w10 hw10 hk10 hz10; rw [put_whole _ _ (by simp [Value.cells])] at hw10; have HW10 := hide hw10; have HK10 := hide hk10; clear hz10 hw10 hk10))
  refine bodyPost_ret (results_cb rfl Try.agg30 rfl HW10.out rfl rfl) rfl ?_
  refine ⟨_, ⟨ta, tn, tc⟩, ws, rfl, HT9.out.kept HK10.out (fun j hj h => ?_), fun j hj => ?_, HWs9.out.kept HK10.out (fun j hj h => ?_), HGe9.out, ?_, fun x hx => ?_, HK9.out.trans HK10.out (fun i hi h => by have := Hz1.out; omega)⟩
  · subst h; exact ownsRow_blk_ne HT9.out HW9.out (by decide) hj
  · cases hj; exact HG9.out
  · subst h; exact ownsRow_blk_ne HWs9.out HW9.out (by decide) hj
  · rw [HWr.out, List.map_append]; rfl
  · rcases List.mem_append.1 (HMem.out x hx) with h | h
    · exact .inl h
    · rw [List.mem_singleton] at h; exact .inr h
end Go.Proofs.Ytclfklcboigifaa
