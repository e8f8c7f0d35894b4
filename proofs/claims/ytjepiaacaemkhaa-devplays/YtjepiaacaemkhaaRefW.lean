/-
  The reference's Write.
-/
import Derived.Test.YtjepiaacaemkhaaRefD
namespace Go.Proofs.Ytjepiaacaemkhaa
open Go.RowKit Go.Shelf
set_option linter.unusedSimpArgs false
set_option linter.unusedVariables false

set_option maxHeartbeats 1000000 in
theorem refWrite_off (w : World) (s : DS) (ro : Option Addr) (rl rc : Nat) (a : Int) (bo : Option Addr) (bl bc : Nat) (ho : s.off = true) :
    Calls Try.prog 21 #[refA s (.slice ro rl rc), .int .i64 a, .slice bo bl bc] w fun e w' => e = .returned (.tuple #[refA s (.slice ro rl rc), .int .i64 10]) ∧ Kept (fun _ => False) w w' := by
  have HO := hide ho
  clear ho
  have HR1 := hide (refL_one s ro rl rc)
  obtain ⟨i40, hi40, hz40, hs40, hb40⟩ := info_parts Try.info40
  have Hi40 := hide hi40
  have Hz40 := hide hz40
  clear hi40 hz40 hs40 hb40
  rw [refL_A]
  obtain ⟨L, hL⟩ : ∃ L, L = refL s (.slice ro rl rc) := ⟨_, rfl⟩
  rw [← hL] at HR1 ⊢
  have HL5 : Hid (L.length = 5) := hide (by rw [hL]; rfl)
  have HLd : Hid ((L.drop 0).take 5 = L) := hide (by rw [hL]; rfl)
  have HL4 : Hid (L[4]? = some (.bool true)) := hide (by rw [hL]; simp [refL, HO.out])
  clear hL
  go_enter Try.func21, Try.ntmps21
  go_wp2_with (first
    | ((with_reducible refine aw_box (dst := some 3) rfl ?_); intro w1 hw1 hk1 hz1; have Hz1 := hide hz1; clear hz1)
    | ((with_reducible refine aw_alloc (dst := some 6) Hi40.out Hz40.out ?_); intro w2 hw2 hk2 hz2; have Hz2 := hide hz2; clear hz2; have b1 : Blk w2 w.heap.size L 40 := hk2.blk hw1 (fun h => h); have c4 := (b1.cell 4).trans HL4.out)
    | ((with_reducible refine aw_load (dst := some 13) Try.agg40 rfl b1 (by rw [HL5.out]; decide) HLd.out ?_))
    | ((with_reducible refine aw_store (x := .tmp 6) Try.agg40 rfl rfl HL5.out HR1.out hw2 (by simp [Value.cells]) ?_); intro w3 hw3 hk3 hz3; rw [put_whole _ _ (by rw [HL5.out]; simp [Value.cells])] at hw3; have Hz3 := hide hz3; clear hz3))
  have hkk : Kept (fun _ => False) w w3 := (hk1.trans hk2 (fun _ _ h => h)).trans hk3 (fun i hi h => by have := hk1.size; omega)
  exact bodyPost_ret (results_cell_tmp (t := 6) (u := 7) (ty := 40) rfl Try.agg40 rfl hw3 HL5.out rfl) rfl ⟨rfl, hkk⟩

set_option maxHeartbeats 1000000 in
theorem refWrite_arg (w : World) (s : DS) (ro : Option Addr) (rl rc : Nat) (a : Int) (bo : Option Addr) (bl bc : Nat) (ho : s.off = false) (hbl : bl ≤ 2000) (hm : bl % 64 ≠ 0) :
    Calls Try.prog 21 #[refA s (.slice ro rl rc), .int .i64 a, .slice bo bl bc] w fun e w' => e = .returned (.tuple #[refA s (.slice ro rl rc), .int .i64 2]) ∧ Kept (fun _ => False) w w' := by
  have HO := hide ho
  clear ho
  have HR1 := hide (refL_one s ro rl rc)
  obtain ⟨i40, hi40, hz40, hs40, hb40⟩ := info_parts Try.info40
  have Hi40 := hide hi40
  have Hz40 := hide hz40
  clear hi40 hz40 hs40 hb40
  rw [refL_A]
  obtain ⟨L, hL⟩ : ∃ L, L = refL s (.slice ro rl rc) := ⟨_, rfl⟩
  rw [← hL] at HR1 ⊢
  have HL5 : Hid (L.length = 5) := hide (by rw [hL]; rfl)
  have HLd : Hid ((L.drop 0).take 5 = L) := hide (by rw [hL]; rfl)
  have HL4 : Hid (L[4]? = some (.bool false)) := hide (by rw [hL]; simp [refL, HO.out])
  clear hL
  go_enter Try.func21, Try.ntmps21
  go_wp2_with (first
    | ((with_reducible refine aw_box (dst := some 3) rfl ?_); intro w1 hw1 hk1 hz1; have Hz1 := hide hz1; clear hz1)
    | ((with_reducible refine aw_alloc (dst := some 6) Hi40.out Hz40.out ?_); intro w2 hw2 hk2 hz2; have Hz2 := hide hz2; clear hz2; have b1 : Blk w2 w.heap.size L 40 := hk2.blk hw1 (fun h => h); have c4 := (b1.cell 4).trans HL4.out)
    | ((with_reducible refine aw_load (dst := some 18) Try.agg40 rfl b1 (by rw [HL5.out]; decide) HLd.out ?_))
    | ((with_reducible refine aw_store (x := .tmp 6) Try.agg40 rfl rfl HL5.out HR1.out hw2 (by simp [Value.cells]) ?_); intro w3 hw3 hk3 hz3; rw [put_whole _ _ (by rw [HL5.out]; simp [Value.cells])] at hw3; have Hz3 := hide hz3; clear hz3))
  have hkk : Kept (fun _ => False) w w3 := (hk1.trans hk2 (fun _ _ h => h)).trans hk3 (fun i hi h => by have := hk1.size; omega)
  exact bodyPost_ret (results_cell_tmp (t := 6) (u := 7) (ty := 40) rfl Try.agg40 rfl hw3 HL5.out rfl) rfl ⟨rfl, hkk⟩

set_option maxHeartbeats 1000000 in
theorem refWrite_range (w : World) (s : DS) (n : Nat) (hl : s.st.length = 64 * n) (hn : n ≤ 4096) (ro : Option Addr) (rl rc : Nat) (a : Int) (ha : a ≤ 9223372036854775807) (bo : Option Addr) (m bc : Nat) (hm : m ≤ 4096) (ho : s.off = false) (hh : hasB n a m = false) :
    Calls Try.prog 21 #[refA s (.slice ro rl rc), .int .i64 a, .slice bo (64 * m) bc] w fun e w' => e = .returned (.tuple #[refA s (.slice ro rl rc), .int .i64 11]) ∧ Kept (fun _ => False) w w' := by
  have HT := hide (fun W => there_any W s n hl hn ro rl rc a m ha)
  have HN := hide hh
  have HO := hide ho
  clear ho hh hl
  have HR1 := hide (refL_one s ro rl rc)
  obtain ⟨i40, hi40, hz40, hs40, hb40⟩ := info_parts Try.info40
  have Hi40 := hide hi40
  have Hz40 := hide hz40
  clear hi40 hz40 hs40 hb40
  rw [refL_A]
  rw [refL_A] at HT
  obtain ⟨L, hL⟩ : ∃ L, L = refL s (.slice ro rl rc) := ⟨_, rfl⟩
  rw [← hL] at HR1 HT ⊢
  have HL5 : Hid (L.length = 5) := hide (by rw [hL]; rfl)
  have HLd : Hid ((L.drop 0).take 5 = L) := hide (by rw [hL]; rfl)
  have HL4 : Hid (L[4]? = some (.bool false)) := hide (by rw [hL]; simp [refL, HO.out])
  clear hL
  have hq : ((64 * m : Nat) : Int) / 64 = (m : Int) := by omega
  go_enter Try.func21, Try.ntmps21
  go_wp2_with (first
    | ((with_reducible refine aw_box (dst := some 3) rfl ?_); intro w1 hw1 hk1 hz1; have Hz1 := hide hz1; clear hz1)
    | ((with_reducible refine aw_alloc (dst := some 6) Hi40.out Hz40.out ?_); intro w2 hw2 hk2 hz2; have Hz2 := hide hz2; clear hz2; have b1 : Blk w2 w.heap.size L 40 := hk2.blk hw1 (fun h => h); have c4 := (b1.cell 4).trans HL4.out)
    | ((with_reducible refine aw_load (dst := some 19) Try.agg40 rfl b1 (by rw [HL5.out]; decide) HLd.out ?_))
    | (go_at_call 34; refine (HT.out _).mono ?_; rintro e w3 ⟨rfl, hk3⟩; rw [HN.out]; have b3 := hk3.blk b1 (fun h => h); have r3 := hk3.blk hw2 (fun h => h))
    | ((with_reducible refine aw_load (dst := some 26) Try.agg40 rfl b3 (by rw [HL5.out]; decide) HLd.out ?_))
    | ((with_reducible refine aw_store (x := .tmp 6) Try.agg40 rfl rfl HL5.out HR1.out r3 (by simp [Value.cells]) ?_); intro w4 hw4 hk4 hz4; rw [put_whole _ _ (by rw [HL5.out]; simp [Value.cells])] at hw4; have Hz4 := hide hz4; clear hz4))
  have hkk : Kept (fun _ => False) w w4 := ((hk1.trans hk2 (fun _ _ h => h)).trans hk3 (fun _ _ h => h)).trans hk4 (fun i hi h => by have := hk1.size; omega)
  exact bodyPost_ret (results_cell_tmp (t := 6) (u := 7) (ty := 40) rfl Try.agg40 rfl hw4 HL5.out rfl) rfl ⟨rfl, hkk⟩

set_option maxHeartbeats 1000000 in
theorem refWrite_limit (w : World) (s : DS) (n : Nat) (hl : s.st.length = 64 * n) (hn : n ≤ 4096) (ro : Option Addr) (rl rc : Nat) (a : Int) (ha : a ≤ 9223372036854775807) (bo : Option Addr) (m bc : Nat) (hm : m ≤ 4096) (ho : s.off = false) (hh : hasB n a m = true) (hz : s.left = 0) (hc : s.calls < 4611686018427387904) :
    Calls Try.prog 21 #[refA s (.slice ro rl rc), .int .i64 a, .slice bo (64 * m) bc] w fun e w' => e = .returned (.tuple #[refA s.spent (.slice ro rl rc), .int .i64 10]) ∧ Kept (fun _ => False) w w' := by
  have HT := hide (fun W => there_any W s n hl hn ro rl rc a m ha)
  have HCa := hide (fun W => call_any W s ro rl rc (by omega) (by omega) hc)
  have HN := hide hh
  have HO := hide ho
  have HG : Hid (s.goes = false) := hide (by simp [DS.goes, hz])
  clear ho hh hl hz
  have HR1 := hide (refL_one s ro rl rc)
  have HR2 := hide (refL_one s.spent ro rl rc)
  obtain ⟨i40, hi40, hz40, hs40, hb40⟩ := info_parts Try.info40
  have Hi40 := hide hi40
  have Hz40 := hide hz40
  clear hi40 hz40 hs40 hb40
  rw [refL_A, refL_A]
  rw [refL_A] at HT
  rw [refL_A, refL_A] at HCa
  obtain ⟨L, hL⟩ : ∃ L, L = refL s (.slice ro rl rc) := ⟨_, rfl⟩
  obtain ⟨L2, hL2⟩ : ∃ L, L = refL s.spent (.slice ro rl rc) := ⟨_, rfl⟩
  rw [← hL] at HR1 HT HCa ⊢
  rw [← hL2] at HR2 HCa ⊢
  have HL5 : Hid (L.length = 5) := hide (by rw [hL]; rfl)
  have HLd : Hid ((L.drop 0).take 5 = L) := hide (by rw [hL]; rfl)
  have HL4 : Hid (L[4]? = some (.bool false)) := hide (by rw [hL]; simp [refL, HO.out])
  have HM5 : Hid (L2.length = 5) := hide (by rw [hL2]; rfl)
  have HMd : Hid ((L2.drop 0).take 5 = L2) := hide (by rw [hL2]; rfl)
  clear hL hL2
  have hq : ((64 * m : Nat) : Int) / 64 = (m : Int) := by omega
  go_enter Try.func21, Try.ntmps21
  go_wp2_with (first
    | ((with_reducible refine aw_box (dst := some 3) rfl ?_); intro w1 hw1 hk1 hz1; have Hz1 := hide hz1; clear hz1)
    | ((with_reducible refine aw_alloc (dst := some 6) Hi40.out Hz40.out ?_); intro w2 hw2 hk2 hz2; have Hz2 := hide hz2; clear hz2; have b1 : Blk w2 w.heap.size L 40 := hk2.blk hw1 (fun h => h); have c4 := (b1.cell 4).trans HL4.out)
    | ((with_reducible refine aw_load (dst := some 19) Try.agg40 rfl b1 (by rw [HL5.out]; decide) HLd.out ?_))
    | (go_at_call 34; refine (HT.out _).mono ?_; rintro e w3 ⟨rfl, hk3⟩; rw [HN.out]; have b3 := hk3.blk b1 (fun h => h); have r3 := hk3.blk hw2 (fun h => h))
    | ((with_reducible refine aw_load (dst := some 28) Try.agg40 rfl b3 (by rw [HL5.out]; decide) HLd.out ?_))
    | (go_at_call 36; refine (HCa.out _).mono ?_; rintro e w4 ⟨rfl, hk4⟩; rw [HG.out]; have b4 := hk4.blk b3 (fun h => h); have r4 := hk4.blk r3 (fun h => h))
    | ((with_reducible refine aw_store (x := .tmp 3) Try.agg40 rfl rfl HM5.out HR2.out b4 (by rw [HL5.out]; decide) ?_); intro w5 hw5 hk5 hz5; rw [put_whole _ _ (by rw [HL5.out, HM5.out])] at hw5; have Hz5 := hide hz5; clear hz5; have r5 := hk5.blk r4 (fun h => by have := hw1.lt; omega))
    | ((with_reducible refine aw_load (dst := some 34) Try.agg40 rfl hw5 (by rw [HM5.out]; decide) HMd.out ?_))
    | ((with_reducible refine aw_store (x := .tmp 6) Try.agg40 rfl rfl HM5.out HR2.out r5 (by simp [Value.cells]) ?_); intro w6 hw6 hk6 hz6; rw [put_whole _ _ (by rw [HM5.out]; simp [Value.cells])] at hw6; have Hz6 := hide hz6; clear hz6))
  have hkk : Kept (fun _ => False) w w6 := ((((hk1.trans hk2 (fun _ _ h => h)).trans hk3 (fun _ _ h => h)).trans hk4 (fun _ _ h => h)).trans hk5 (fun i hi h => by omega)).trans hk6 (fun i hi h => by have := hk1.size; omega)
  exact bodyPost_ret (results_cell_tmp (t := 6) (u := 7) (ty := 40) rfl Try.agg40 rfl hw6 HM5.out rfl) rfl ⟨rfl, hkk⟩

end Go.Proofs.Ytjepiaacaemkhaa
