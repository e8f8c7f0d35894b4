/-
  The document's pool: Put, walked.
-/
import Derived.Test.YtnlcmgdeohbmoaaJ40
namespace Go.Proofs.Ytnlcmgdeohbmoaa
open Go.RowKit Go.Shelf
set_option linter.unusedSimpArgs false
set_option linter.unusedVariables false
set_option maxRecDepth 100000

set_option maxHeartbeats 8000000 in
theorem rpput_at (w : World) (N nd : Nat) (s : D.DS) (rv : Value) (fr n : Nat) (hv dv : Value) (H : List (List Nat)) (T : List Bool) (h : RfP w N nd s rv fr n hv dv H T) (hN : N ≤ w.heap.size) (v : Value) (ws : List Wv) (hws : WsAt w v ws) :
    Calls Try.prog 17 #[refP s rv fr hv dv, v] w fun e w' => ∃ hv' dv', e = .returned (.tuple #[refP s rv fr hv' dv', .int .i64 (withE n (ws.map Wv.wr))]) ∧ RfP w' N nd s rv fr n hv' dv' (putHE n H (ws.map Wv.wr)) (putTE n T (ws.map Wv.wr)) ∧ Kept (fun _ => False) w w' := by
  obtain ⟨hHl, hTl⟩ := h.lens
  have hn := h.n64
  have HH := hide h
  have HN := hide hN
  obtain ⟨va, vc, rfl⟩ := hws.slice
  have hwl := hws.2.2
  have HL := hide hws
  obtain ⟨ro, rc, rfl⟩ := h.wt.slice
  obtain ⟨hg, hcap, rfl, -⟩ := h.hh.cell
  obtain ⟨dg, dcap, rfl, -⟩ := h.hd.cell
  have Hn := hide hn
  have HHl := hide hHl
  have HTl := hide hTl
  obtain ⟨i0, hi0, hz0, hs0, hb0⟩ := info_parts Try.info37
  have Hi0 := hide hi0
  have Hz0 := hide hz0
  obtain ⟨i8, hi8, hz8, hs8, hb8⟩ := info_parts Try.info68
  have Hi8 := hide hi8
  have Hz8 := hide hz8
  obtain ⟨i9, hi9, hz9, hs9, hb9⟩ := info_parts Try.info9
  have Hi9 := hide hi9
  have Hz9 := hide hz9
  have Hs9 := hide hs9
  have Hb9 := hide hb9
  obtain ⟨i4, hi4, hz4, hs4, hb4⟩ := info_parts Try.info4
  have Hi4 := hide hi4
  have Hz4 := hide hz4
  have Hs4 := hide hs4
  have Hb4 := hide hb4
  obtain ⟨i34, hi34, hz34, hs34, hb34⟩ := info_parts Try.info34
  have Hi34 := hide hi34
  have Hs34 := hide hs34
  obtain ⟨i35, hi35, hz35, hs35, hb35⟩ := info_parts Try.info35
  have Hi35 := hide hi35
  have Hs35 := hide hs35
  have HZr := hide (fun (w' : World) => zero_at w' n hn)
  have HWi := hide (fun (w' : World) (hk : Kept (fun _ => False) w w') => rwith_at w' (List.replicate (64 * n) 0) n (zeros_len n) (zeros_lt n) hn.2 _ ws (HL.out.kept hk))
  clear h hN hws hHl hTl hi0 hz0 hs0 hb0 hi8 hz8 hs8 hb8 hi9 hz9 hs9 hb9 hi4 hz4 hs4 hb4 hi34 hz34 hs34 hb34 hi35 hz35 hs35 hb35
  obtain ⟨v, hv⟩ : ∃ v, v = refP s (.slice ro s.ws.length rc) fr (.slice (some ⟨hg, 0, none⟩) n hcap) (.slice (some ⟨dg, 0, none⟩) n dcap) := ⟨_, rfl⟩
  have Hv := hide hv
  rw [← hv]
  obtain ⟨E, hE⟩ : ∃ E, withE n (ws.map Wv.wr) = E := ⟨_, rfl⟩
  have HE := hide hE
  rw [hE] at HWi ⊢
  obtain ⟨z, hz⟩ : ∃ z, strN (List.replicate (64 * n) 0) = z := ⟨_, rfl⟩
  rw [hz] at HZr HWi
  clear hv hz hE
  go_enter Try.func17, Try.ntmps17
  go_wp2_with (first
    | ((with_reducible refine aw_box (t := 37) rfl ?_); intro w1 hw1 hk1 hz1; have HK1 := hide hk1; have HZ1 := hide hz1; rw [Hv.out] at hw1; have HW1 : Hid (Blk w1 w.heap.size (refPL s (.slice ro s.ws.length rc) fr (.slice (some ⟨hg, 0, none⟩) n hcap) (.slice (some ⟨dg, 0, none⟩) n dcap)) 37) := hide hw1; clear hw1 hk1 hz1)
    | ((with_reducible refine aw_alloc (t := 37) (dst := some 4) Hi0.out Hz0.out ?_); intro w2 hw2 hk2 hz2; have HK2 := hide (HK1.out.trans hk2 (fun _ _ h => h)); have HZ2 := hide hz2; have HR2 := hide hw2; have HW2 := hide (hk2.blk HW1.out (fun h => h)); have c6 : w2.cell? ⟨w.heap.size, 6, none⟩ = some (.slice (some ⟨hg, 0, none⟩) n hcap) := HW2.out.cell 6; clear hw2 hk2 hz2)
    | fail)
  refine (HZr.out w2).mono ?_
  rintro e w3 ⟨rfl, hk3⟩
  have HK3 := hide (HK2.out.trans hk3 (fun _ _ h => h))
  have HW3 := hide (hk3.blk HW2.out (fun h => h))
  have HR3 := hide (hk3.blk HR2.out (fun h => h))
  clear hk3 c6
  go_wp2_with fail
  refine (HWi.out w3 HK3.out).mono ?_
  rintro e w4 ⟨S, rfl, -, hk4⟩
  have HK4 := hide (HK3.out.trans hk4 (fun _ _ h => h))
  have HW4 := hide (hk4.blk HW3.out (fun h => h))
  have HR4 := hide (hk4.blk HR3.out (fun h => h))
  clear hk4 HZr HWi
  by_cases hE0 : E = 0
  · have hE2 : withE n (ws.map Wv.wr) = 0 := HE.out.trans hE0
    have HE0 := hide hE2
    have HPH : Hid (putHE n H (ws.map Wv.wr) = putsH H (ws.map Wv.wr) ∧ putTE n T (ws.map Wv.wr) = putsT T (ws.map Wv.wr)) := hide (by unfold putHE putTE; rw [if_pos hE2, if_pos hE2]; exact ⟨rfl, rfl⟩)
    have hr4 : RfP w4 N nd s (.slice ro s.ws.length rc) fr n (.slice (some ⟨hg, 0, none⟩) n hcap) (.slice (some ⟨dg, 0, none⟩) n dcap) H T := HH.out.kept HK4.out
    obtain ⟨hv5, w5, hr5, hrow5, hk5⟩ := app0R Try.underlying34 Hi9.out Hz9.out Hs9.out Hb9.out rfl (by decide) w4 _ n N (HV H) hr4.hh (HV_one H) Hn.out
    have HR5 := hide hr5
    have HRow5 := hide hrow5
    have HK5 := hide hk5
    have HK05 := hide (HK4.out.trans hk5 (fun _ _ h => h))
    have HW5 := hide (hk5.blk HW4.out (fun h => h))
    have HRR5 := hide (hk5.blk HR4.out (fun h => h))
    obtain ⟨g5, cap5, C5, rfl, -⟩ := id hrow5
    have c6 : w4.cell? ⟨w.heap.size, 6, none⟩ = some (.slice (some ⟨hg, 0, none⟩) n hcap) := HW4.out.cell 6
    clear hE2 hr4 hr5 hrow5 hk5
    go_wp2_with (first | (with_reducible refine stop_bs0 34 ?_) | fail)
    refine hide ?_
    refine wpList_run rfl (r_bs0 Try.underlying34 Hi9.out Hz9.out Hs9.out) ?_
    have hkA : Kept (fun _ => False) w4 (w4.alloc (.cells #[] 9)) := Kept.alloc _ _ _
    have c6A : (w4.alloc (.cells #[] 9)).cell? ⟨w.heap.size, 6, none⟩ = some (.slice (some ⟨hg, 0, none⟩) n hcap) := (hkA.blk HW4.out (fun h => h)).cell 6
    clear hkA c6
    try simp only [put_lit, put_none, List.set_cons_succ, List.set_cons_zero]
    generalize w4.alloc (.cells #[] 9) = wA at HR5 c6A
    go_wp2_with (first | (with_reducible refine stop_app2 34 34 ?_) | fail)
    refine hide ?_
    refine wpList_run rfl (r_app rfl rfl HR5.out) ?_
    clear c6A HR5
    try simp only [put_lit, put_none, List.set_cons_succ, List.set_cons_zero]
    go_wp2_with (first | (with_reducible refine stop_store 34 ?_) | fail)
    refine hide ?_
    refine aw_store1 (v := .slice (some ⟨g5, 0, none⟩) n cap5) Hi34.out Hs34.out rfl rfl rfl rfl HW5.out (by rw [refPL_len]; decide) ?_
    intro w6 hw6 hk6 hz6
    have HW6 : Hid (Blk w6 w.heap.size (refPL s (.slice ro s.ws.length rc) fr (.slice (some ⟨g5, 0, none⟩) n cap5) (.slice (some ⟨dg, 0, none⟩) n dcap)) 37) := hide hw6
    have hkw6 : Kept (fun _ => False) w w6 := HK05.out.trans hk6 (fun i hi e => by omega)
    have HK06 := hide hkw6
    have hw4s : w.heap.size < w4.heap.size := HW4.out.lt
    have hw14 : w1.heap.size < w4.heap.size := HR4.out.lt
    have hz1 := HZ1.out
    have hrow6 : RowB w6 (.slice (some ⟨g5, 0, none⟩) n cap5) n (HV H) 9 w4.heap.size := by
      obtain ⟨g, cap, C, e, hb, q⟩ := HRow5.out
      cases e
      exact ⟨g5, cap5, C, rfl, hk6.blk hb (fun e => by have := q.2.2.2.2; omega), q⟩
    have HRow6 := hide hrow6
    have HRR6 := hide (hk6.blk HRR5.out (fun e => by omega))
    have hs46 : w4.heap.size ≤ w6.heap.size := Nat.le_trans HK5.out.size hk6.size
    have HS46 := hide (And.intro hw4s (And.intro hw14 hs46))
    have c7 : w6.cell? ⟨w.heap.size, 7, none⟩ = some (.slice (some ⟨dg, 0, none⟩) n dcap) := HW6.out.cell 7
    obtain ⟨tv7, w7, hr7, hrow7, hk7⟩ := app0R Try.underlying35 Hi4.out Hz4.out Hs4.out Hb4.out rfl (by decide) w6 _ n N (TV T) (HH.out.kept hkw6).hd (TV_one T) Hn.out
    have HR7 := hide hr7
    have HRow7 := hide hrow7
    have HK7 := hide hk7
    obtain ⟨g7, cap7, C7, rfl, -⟩ := id hrow7
    clear hw6 hk6 hz6 hkw6 hw4s hw14 hz1 hrow6 hs46 hr7 hrow7 hk7
    try simp only [put_lit, put_none, List.set_cons_succ, List.set_cons_zero]
    go_wp2_with (first | (with_reducible refine stop_bs0 35 ?_) | fail)
    refine hide ?_
    refine wpList_run rfl (r_bs0 Try.underlying35 Hi4.out Hz4.out Hs4.out) ?_
    have hkA : Kept (fun _ => False) w6 (w6.alloc (.cells #[] 4)) := Kept.alloc _ _ _
    have c7A : (w6.alloc (.cells #[] 4)).cell? ⟨w.heap.size, 7, none⟩ = some (.slice (some ⟨dg, 0, none⟩) n dcap) := (hkA.blk HW6.out (fun h => h)).cell 7
    clear hkA c7
    try simp only [put_lit, put_none, List.set_cons_succ, List.set_cons_zero]
    generalize w6.alloc (.cells #[] 4) = wB at HR7 c7A
    go_wp2_with (first | (with_reducible refine stop_app2 35 35 ?_) | fail)
    refine hide ?_
    refine wpList_run rfl (r_app rfl rfl HR7.out) ?_
    clear c7A HR7
    try simp only [put_lit, put_none, List.set_cons_succ, List.set_cons_zero]
    go_wp2_with (first | (with_reducible refine stop_store 35 ?_) | fail)
    refine hide ?_
    refine aw_store1 (v := .slice (some ⟨g7, 0, none⟩) n cap7) Hi35.out Hs35.out rfl rfl rfl rfl (HK7.out.blk HW6.out (fun h => h)) (by rw [refPL_len]; decide) ?_
    intro w8 hw8 hk8 hz8
    obtain ⟨PL, hPL⟩ : ∃ L, L = refPL s (.slice ro s.ws.length rc) fr (.slice (some ⟨g5, 0, none⟩) n cap5) (.slice (some ⟨g7, 0, none⟩) n cap7) := ⟨_, rfl⟩
    have HPe := hide hPL
    have HPl : Hid (PL.length = 8) := hide (by rw [hPL]; rfl)
    have HPt : Hid ((PL.drop 0).take 8 = PL) := hide (by rw [hPL]; rfl)
    have HP1 : Hid (∀ v ∈ PL, v.oneCell' = true) := hide (by rw [hPL]; exact refPL_one)
    have HP6 : Hid (PL[6]? = some (.slice (some ⟨g5, 0, none⟩) n cap5) ∧ PL[7]? = some (.slice (some ⟨g7, 0, none⟩) n cap7)) := hide (by rw [hPL]; exact ⟨rfl, rfl⟩)
    have HW8 : Hid (Blk w8 w.heap.size PL 37) := hide (by rw [hPL]; exact hw8)
    have HK08 : Hid (Kept (fun _ => False) w w8) := hide ((HK06.out.trans HK7.out (fun _ _ h => h)).trans hk8 (fun i hi e => by omega))
    obtain ⟨CH, hCH⟩ : ∃ CH, Blk w8 g5 (HV H ++ CH) 9 ∧ n ≤ cap5 ∧ cap5 ≤ maxLen ∧ CH.length = cap5 - n ∧ w4.heap.size ≤ g5 := by
      obtain ⟨g, cap, C, e, hb, q1, q2, q3, q4, q5⟩ := HRow6.out
      cases e
      exact ⟨C, hk8.blk (HK7.out.blk hb (fun h => h)) (fun e => by have := HS46.out; omega), q1, q2, q3, q5⟩
    obtain ⟨CT, hCT⟩ : ∃ CT, Blk w8 g7 (TV T ++ CT) 4 ∧ n ≤ cap7 ∧ cap7 ≤ maxLen ∧ CT.length = cap7 - n ∧ w6.heap.size ≤ g7 := by
      obtain ⟨g, cap, C, e, hb, q1, q2, q3, q4, q5⟩ := HRow7.out
      cases e
      exact ⟨C, hk8.blk hb (fun e => by have := HS46.out; omega), q1, q2, q3, q5⟩
    have HCH := hide hCH
    have HCT := hide hCT
    have HRR8 := hide (hk8.blk (HK7.out.blk HRR6.out (fun h => h)) (fun e => by have := HZ1.out; omega))
    have HNe : Hid (g5 ≠ w.heap.size ∧ g7 ≠ w.heap.size ∧ g5 ≠ w1.heap.size ∧ g7 ≠ w1.heap.size ∧ g5 ≠ g7 ∧ w.heap.size ≤ g5 ∧ w.heap.size ≤ g7) := hide (by
      have := HS46.out
      have := hCH.2.2.2.2
      have := hCT.2.2.2.2
      exact ⟨by omega, by omega, by omega, by omega, fun e => hCH.1.ne hCT.1 (by decide) e, by omega, by omega⟩)
    clear hPL hw8 hk8 hz8 hCH hCT HRow5 HRow6 HRow7 HW6 HK7 HRR6 HK5 HRR5 HW5
    try simp only [put_lit, put_none, List.set_cons_succ, List.set_cons_zero]
    go_wp2
    go_loopw [35] (fun i wr => ∃ k : Nat, i = .int .i64 k ∧ k ≤ ws.length ∧ Hid (withE n ((ws.map Wv.wr).take k) = 0) ∧ Hid (Blk wr g5 (HV (putsH H ((ws.map Wv.wr).take k)) ++ CH) 9) ∧ Hid (Blk wr g7 (TV (putsT T ((ws.map Wv.wr).take k)) ++ CT) 4) ∧ Hid (Kept (fun j => j = g5 ∨ j = g7) w8 wr)) (fun i _ => ws.length - (intOf i).toNat)
    case atStart => exact ⟨0, rfl, Nat.zero_le _, hide rfl, hide HCH.out.1, hide HCT.out.1, hide (Kept.refl _ _)⟩
    case round =>
      obtain ⟨k, rfl, hk, HA, HBh, HBt, HK⟩ := hrel
      have HKw : Hid (Kept (fun _ => False) w wr) := hide (HK08.out.trans HK.out (fun i hi e => by have := HNe.out; omega))
      have HWr : Hid (Blk wr w.heap.size PL 37) := hide (HK.out.blk HW8.out (fun e => by have := HNe.out; omega))
      by_cases hlt : k < ws.length
      · obtain ⟨ga, off, rfl, c0, c1, hsa, hna⟩ := (HL.out.kept HKw.out).get hlt
        have hlm : k < (ws.map Wv.wr).length := by simpa using hlt
        have hstep := withE_step hlm HA.out
        rw [wr_get hlt, HE0.out] at hstep
        simp only at hstep
        have hin : 0 ≤ ws[k].blk ∧ ws[k].blk < n := by
          by_cases h : 0 ≤ ws[k].blk ∧ ws[k].blk < n
          · exact h
          · rw [if_pos h] at hstep; cases hstep
        have h64 : ws[k].B.length = 64 := by
          rw [if_neg (by simpa using hin)] at hstep
          by_cases h : ws[k].B.length = 64
          · exact h
          · rw [if_pos h] at hstep; cases hstep
        have HA2 : Hid (withE n ((ws.map Wv.wr).take (k + 1)) = 0) := hide (withE_take1 hlm HA.out (by rw [wr_get hlt]; exact hin) (by rw [wr_get hlt]; exact h64))
        have HSh := hide (putsH_take1 (H := H) hlm)
        have HSt := hide (putsT_take1 (T := T) hlm)
        rw [wr_get hlt] at HSh HSt
        simp only at HSh HSt
        have HSA := hide hsa
        obtain ⟨p, hp⟩ : ∃ p, p = ws[k].blk := ⟨_, rfl⟩
        obtain ⟨B, hB⟩ : ∃ B, B = ws[k].B := ⟨_, rfl⟩
        obtain ⟨⟨pa, pn, pc⟩, hs⟩ : ∃ s, s = ws[k].s := ⟨_, rfl⟩
        rw [← hp] at c0 hin HSh HSt
        rw [← hs] at c1 HSA
        rw [← hB] at HSA HSh
        simp only at c1
        obtain ⟨m, rfl⟩ : ∃ m : Nat, p = m := ⟨p.toNat, by omega⟩
        rw [Int.toNat_natCast] at HSh HSt
        have hmn : m < n := by omega
        have hmI : (m : Int) < (n : Int) := by omega
        have Hmn := hide hmn
        obtain ⟨H1, hH1⟩ : ∃ H1, putsH H ((ws.map Wv.wr).take k) = H1 := ⟨_, rfl⟩
        obtain ⟨T1, hT1⟩ : ∃ T1, putsT T ((ws.map Wv.wr).take k) = T1 := ⟨_, rfl⟩
        have HH1 : Hid (H1.length = n) := hide (by rw [← hH1, putsH_len]; exact HHl.out)
        have HT1 : Hid (T1.length = n) := hide (by rw [← hT1, putsT_len]; exact HTl.out)
        rw [hH1] at HSh HBh
        rw [hT1] at HSt HBt
        clear hsa hna hlm hstep hin h64 hp hB hs hH1 hT1
        go_wp2_with (first
          | ((with_reducible refine aw_alloc (t := 68) (dst := some 9) Hi8.out Hz8.out ?_); intro wa hwa hka hza; have Hza := hide hza; clear hza c0 c1)
          | ((with_reducible refine aw_store (M := [.int .i64 (m : Int), .slice pa pn pc]) Try.agg68 rfl rfl rfl (by simp [Value.oneCell']) hwa (by simp [Value.cells]) ?_); intro wb hwb hkb hzb; rw [put_whole _ _ (by simp [Value.cells])] at hwb; have HKab := hide (hka.trans hkb (S := fun _ => False) (fun i hi h => by omega)); have e0 : wb.cell? ⟨wr.heap.size, 0, none⟩ = some (.int .i64 (m : Int)) := hwb.cell 0; have e1 : wb.cell? ⟨wr.heap.size, 1, none⟩ = some (.slice pa pn pc) := hwb.cell 1; have HWb := hide hwb; have c6 : wb.cell? ⟨w.heap.size, 6, none⟩ = some (.slice (some ⟨g5, 0, none⟩) n cap5) := ((HKab.out.blk HWr.out (fun h => h)).cell 6).trans HP6.out.1; clear hzb hwa hka hkb hwb)
          | (with_reducible refine stop_convert 41 9 ?_)
          | fail)
        refine hide ?_
        refine wpList_run rfl (r_strS (v := .slice pa pn pc) (B := B) rfl (HSA.out.kept HKab.out)) ?_
        try simp only [put_lit, put_none, List.set_cons_succ, List.set_cons_zero]
        obtain ⟨sx, hsx⟩ : ∃ sx, strN B = sx := ⟨_, rfl⟩
        have HSx := hide hsx
        rw [hsx]
        clear hsx
        go_wp2_with (first | (with_reducible refine stop_store 9 ?_) | fail)
        refine hide ?_
        refine aw_store1 (v := .string sx) Hi9.out Hs9.out rfl rfl rfl rfl (HKab.out.blk HBh.out (fun h => h)) (by rw [List.length_append, HV_length, HH1.out]; have := Hmn.out; omega) ?_
        intro wc hwc hkc hzc
        have HBh2 : Hid (Blk wc g5 (HV (putsH H ((ws.map Wv.wr).take (k + 1))) ++ CH) 9) := hide (by
          rw [HSh.out, ← HV_set (by rw [HH1.out]; exact Hmn.out), HSx.out]
          simpa using hwc)
        have HKc := hide hkc
        have e0 : wc.cell? ⟨wr.heap.size, 0, none⟩ = some (.int .i64 (m : Int)) := (hkc.blk HWb.out (fun e => by have := (HKab.out.blk HBh.out (fun h => h)).lt; have := HBh.out.lt; omega)).cell 0
        have c7 : wc.cell? ⟨w.heap.size, 7, none⟩ = some (.slice (some ⟨g7, 0, none⟩) n cap7) := ((hkc.blk (HKab.out.blk HWr.out (fun h => h)) (fun e => by have := HNe.out; omega)).cell 7).trans HP6.out.2
        clear hwc hkc hzc e1 c6
        try simp only [put_lit, put_none, List.set_cons_succ, List.set_cons_zero]
        go_wp2_with (first | (with_reducible refine stop_store 4 ?_) | fail)
        refine hide ?_
        refine aw_store1 (v := .bool true) Hi4.out Hs4.out rfl rfl rfl rfl (HKc.out.blk (HKab.out.blk HBt.out (fun h => h)) (fun e => HNe.out.2.2.2.2.1 e.symm)) (by rw [List.length_append, TV_length, HT1.out]; have := Hmn.out; omega) ?_
        intro wd hwd hkd hzd
        have HBt2 : Hid (Blk wd g7 (TV (putsT T ((ws.map Wv.wr).take (k + 1))) ++ CT) 4) := hide (by
          rw [HSt.out, ← TV_set (by rw [HT1.out]; exact Hmn.out)]
          simpa using hwd)
        have HBh3 := hide (hkd.blk HBh2.out (fun e => HNe.out.2.2.2.2.1 e))
        have HKd : Hid (Kept (fun j => j = g5 ∨ j = g7) w8 wd) := hide (((HK.out.trans HKab.out (fun _ _ h => h.elim)).trans HKc.out (fun _ _ h => .inl h)).trans hkd (fun _ _ h => .inr h))
        clear hwd hkd hzd e0 c7
        try simp only [put_lit, put_none, List.set_cons_succ, List.set_cons_zero]
        go_wp2
        go_roundw
        case rel => exact ⟨k + 1, by simp, by omega, HA2, HBh3, HBt2, HKd⟩
        case measure => simp [intOf]; omega
      · obtain rfl : k = ws.length := by omega
        have htk : (ws.map Wv.wr).take ws.length = ws.map Wv.wr := List.take_of_length_le (by simp)
        have hbh := HBh.out
        have hbt := HBt.out
        rw [htk] at hbh hbt
        have HBh := hide hbh
        have HBt := hide hbt
        have HRRr := hide (HK.out.blk HRR8.out (fun e => by have := HNe.out; omega))
        clear hbh hbt htk
        go_wp2_with (first
          | (with_reducible refine stop_load 37 ?_)
          | fail)
        refine hide ?_
        refine aw_load (M := PL) Try.agg37 rfl HWr.out (by rw [HPl.out]; decide) HPt.out ?_
        try simp only [put_lit, put_none, List.set_cons_succ, List.set_cons_zero]
        go_wp2_with (first | (with_reducible refine stop_store 37 ?_) | fail)
        refine hide ?_
        refine aw_store (M := PL) Try.agg37 rfl rfl HPl.out HP1.out HRRr.out (by rw [zero37]; decide) ?_
        intro w9 hw9 hk9 hz9
        rw [put_whole _ _ (by rw [HPl.out, zero37])] at hw9
        try simp only [put_lit, put_none, List.set_cons_succ, List.set_cons_zero]
        go_wp2
        have k9 : Kept (fun _ => False) w w9 := HKw.out.trans hk9 (fun i hi e => by have := HZ1.out; omega)
        refine bodyPost_ret (D.results_cell_tmp (t := 4) (u := 5) (ty := 37) rfl Try.agg37 rfl hw9 HPl.out rfl) rfl ⟨_, _, by rw [HPe.out, hE0]; rfl, ?_, k9⟩
        have hr := HH.out
        have hne := HNe.out
        rw [HPH.out.1, HPH.out.2]
        exact { dok := hr.dok, wt := hr.wt.kept k9,
                hh := ⟨g5, cap5, CH, rfl, hk9.blk HBh.out (fun e => hne.2.2.1 e), HCH.out.2.1, HCH.out.2.2.1, HCH.out.2.2.2.1, by rw [HV_length, putsH_len]; exact HHl.out, by have := HN.out; omega⟩,
                hd := ⟨g7, cap7, CT, rfl, hk9.blk HBt.out (fun e => hne.2.2.2.1 e), HCT.out.2.1, HCT.out.2.2.1, HCT.out.2.2.2.1, by rw [TV_length, putsT_len]; exact HTl.out, by have := HN.out; omega⟩,
                fit := hr.fit, n64 := hr.n64 }
  · have hr4 : Hid (RfP w4 N nd s (.slice ro s.ws.length rc) fr n (.slice (some ⟨hg, 0, none⟩) n hcap) (.slice (some ⟨dg, 0, none⟩) n dcap) H T) := hide (HH.out.kept HK4.out)
    obtain ⟨PL, hPL⟩ : ∃ L, L = refPL s (.slice ro s.ws.length rc) fr (.slice (some ⟨hg, 0, none⟩) n hcap) (.slice (some ⟨dg, 0, none⟩) n dcap) := ⟨_, rfl⟩
    have HPe := hide hPL
    have HPl : Hid (PL.length = 8) := hide (by rw [hPL]; rfl)
    have HPt : Hid ((PL.drop 0).take 8 = PL) := hide (by rw [hPL]; rfl)
    have HP1 : Hid (∀ v ∈ PL, v.oneCell' = true) := hide (by rw [hPL]; exact refPL_one)
    have hw4 := HW4.out
    rw [← hPL] at hw4
    have HW4 := hide hw4
    clear hw4 hPL
    have HPH : Hid (putHE n H (ws.map Wv.wr) = H ∧ putTE n T (ws.map Wv.wr) = T) := hide (by unfold putHE putTE; rw [HE.out, if_neg hE0, if_neg hE0]; exact ⟨rfl, rfl⟩)
    go_wp2_with (first
      | (with_reducible refine stop_load 37 ?_)
      | fail)
    refine hide ?_
    refine aw_load (M := PL) Try.agg37 rfl HW4.out (by rw [HPl.out]; decide) HPt.out ?_
    try simp only [put_lit, put_none, List.set_cons_succ, List.set_cons_zero]
    go_wp2_with (first | (with_reducible refine stop_store 37 ?_) | fail)
    refine hide ?_
    refine aw_store (M := PL) Try.agg37 rfl rfl HPl.out HP1.out HR4.out (by rw [zero37]; decide) ?_
    intro w7 hw7 hk7 hz7
    rw [put_whole _ _ (by rw [HPl.out, zero37])] at hw7
    try simp only [put_lit, put_none, List.set_cons_succ, List.set_cons_zero]
    go_wp2
    have k7 : Kept (fun _ => False) w w7 := HK4.out.trans hk7 (fun i hi e => by have := HZ1.out; omega)
    have hr7 : RfP w7 N nd s (.slice ro s.ws.length rc) fr n (.slice (some ⟨hg, 0, none⟩) n hcap) (.slice (some ⟨dg, 0, none⟩) n dcap) H T := HH.out.kept k7
    refine bodyPost_ret (D.results_cell_tmp (t := 4) (u := 5) (ty := 37) rfl Try.agg37 rfl hw7 HPl.out rfl) rfl ⟨_, _, by rw [HPe.out]; rfl, ?_, k7⟩
    rw [HPH.out.1, HPH.out.2]
    exact hr7
end Go.Proofs.Ytnlcmgdeohbmoaa
