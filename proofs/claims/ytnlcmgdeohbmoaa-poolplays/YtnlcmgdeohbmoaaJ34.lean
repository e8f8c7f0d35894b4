/-
  The reference's Crash.
-/
import Derived.Test.YtnlcmgdeohbmoaaJ33
namespace Go.Proofs.Ytnlcmgdeohbmoaa.D
open Go.RowKit Go.Shelf
set_option linter.unusedSimpArgs false
set_option linter.unusedVariables false
set_option maxRecDepth 100000

set_option maxRecDepth 100000 in
set_option maxHeartbeats 4000000 in
theorem refCrash_any (w : World) (s : DS) (n : Nat) (hl : s.st.length = 64 * n) (hn : n ≤ 4096) (rv : Value) (how : w.ownsRow 0 102 2 rv s.ws.length (flatR s.ws)) (hw : ∀ p ∈ s.ws, okWait n p) (hB : ∀ v ∈ s.st, isByte v)
    (kv : Value) (ks : List Bool) (hkeep : keepIs w kv ks (fun _ => False)) :
    Calls Try.prog 23 #[refA s rv, kv] w fun e w' => e = .returned (refA (s.crashed ks) (.slice none 0 0)) ∧ Kept (fun _ => False) w w' := by
  obtain ⟨ro, rl, rc, rfl⟩ : ∃ ro rl rc, rv = .slice ro rl rc := by
    rcases how.2 with ⟨rfl, _⟩ | ⟨g, cap, cur, rfl, _⟩
    · exact ⟨_, _, _, rfl⟩
    · exact ⟨_, _, _, rfl⟩
  have HKp := hide hkeep
  obtain ⟨ao, kcap, rfl, hkl, _⟩ := hkeep
  have HR1 := hide (refL_one s ro rl rc)
  obtain ⟨i40, hi40, hz40, hs40, hb40⟩ := info_parts Try.info33
  have Hi40 := hide hi40
  have Hz40 := hide hz40
  clear hi40 hz40 hs40 hb40
  have hok : ∀ k, k ≤ s.ws.length → (laidTo (fun i => ks.getD i false) s.ws s.st k).length = 64 * n ∧ ∀ v ∈ laidTo (fun i => ks.getD i false) s.ws s.st k, isByte v := laidTo_ok (fun i => ks.getD i false) n s.ws s.st hw hl hB
  have HOk := hide hok
  have HW := hide hw
  have HF : Hid (refA (s.crashed ks) (.slice none 0 0) = .agg (refAt (s.crashed ks) (laidTo (fun i => ks.getD i false) s.ws s.st s.ws.length) (.slice none 0 0)).toArray) := hide rfl
  have HS2 : Hid (refL s (.slice ro rl rc) = refAt s (laidTo (fun i => ks.getD i false) s.ws s.st 0) (.slice ro rl rc)) := hide rfl
  rw [HF.out]
  obtain ⟨LE, hLE⟩ : ∃ LE, LE = refAt (s.crashed ks) (laidTo (fun i => ks.getD i false) s.ws s.st s.ws.length) (.slice none 0 0) := ⟨_, rfl⟩
  rw [← hLE]
  have HLE := hide hLE
  have HE5 : Hid (LE.length = 5) := hide (by rw [hLE]; rfl)
  have HE1 : Hid (∀ v ∈ LE, v.oneCell' = true) := hide (by rw [hLE]; intro v hv; simp [refAt] at hv; rcases hv with rfl | rfl | rfl | rfl | rfl <;> rfl)
  clear hLE
  rw [refL_A]
  obtain ⟨L, hL⟩ : ∃ L, L = refL s (.slice ro rl rc) := ⟨_, rfl⟩
  rw [← hL] at HR1 HS2 ⊢
  have HL5 : Hid (L.length = 5) := hide (by rw [hL]; rfl)
  have HL1 : Hid (L[1]? = some (.slice ro rl rc)) := hide (by rw [hL]; rfl)
  obtain ⟨i74, hi74, hz74, hs74, hb74⟩ := info_parts Try.info102
  have Hi74 := hide hi74
  have Hz74 := hide hz74
  clear hL hok hw hl hB hi74 hz74 hs74 hb74
  have HCx := hide how
  clear how
  go_enter Try.func23, Try.ntmps23
  go_wp2_with (first
    | ((with_reducible refine aw_box (dst := some 2) rfl ?_); intro w1 hw1 hk1 hz1; have Hz1 := hide hz1; clear hz1)
    | ((with_reducible refine aw_alloc (dst := some 4) Hi40.out Hz40.out ?_); intro w2 hw2 hk2 hz2; have Hz2 := hide hz2; clear hz2; have b1 : Blk w2 w.heap.size L 33 := hk2.blk hw1 (fun h => h); have d1 := (b1.cell 1).trans HL1.out))
  have hkA : Kept (fun _ => False) w w2 := hk1.trans hk2 (fun _ _ h => h)
  have hlt1 := hw1.lt
  have hne : w.heap.size ≠ w1.heap.size := by omega
  rw [HS2.out] at b1
  have hge1 : w.heap.size ≤ w1.heap.size := by omega
  clear HR1 HL5 HL1 hk1 hk2 hw1 Hz1 Hz2 d1
  obtain ⟨Z, hZ⟩ : ∃ Z, Z = (Value.agg #[.string ⟨#[]⟩, .slice none 0 0, .int .i64 0, .int .i64 0, .bool false]).cells.toList := ⟨_, rfl⟩
  rw [← hZ] at hw2
  have HZ5 : Hid (Z.length = 5) := hide (by rw [hZ]; simp [Value.cells])
  clear hZ
  rcases HCx.out.2 with ⟨he, hz⟩ | ⟨g, cap, cur, he, _, hg, hnc, hcm, hcs, htk⟩
  · cases he
    have hws : s.ws = [] := List.eq_nil_of_length_eq_zero hz
    refine wp_loop_rounds 1 ?_
    rw [rounds_succ]
    have HV : Hid (laidTo (fun i => ks.getD i false) s.ws s.st 0 = laidTo (fun i => ks.getD i false) s.ws s.st s.ws.length) := hide (by rw [hws]; rfl)
    rw [HV.out] at b1
    clear hz hws
    have d1 : w2.cell? ⟨w.heap.size, 1, none⟩ = some (.slice none 0 0) := b1.cell 1
    have f1 := b1.frozen 1
    have X1 := b1.setCell 1 (.slice none 0 0)
    have e4 : (w2.setCell ⟨w.heap.size, 1, none⟩ (.slice none 0 0)).cell? ⟨w.heap.size, 4, none⟩ = some (.bool s.off) := X1.cell 4
    have f4 := X1.frozen 4
    have X2 := X1.setCell 4 (.bool false)
    have e3 : ((w2.setCell ⟨w.heap.size, 1, none⟩ (.slice none 0 0)).setCell ⟨w.heap.size, 4, none⟩ (.bool false)).cell? ⟨w.heap.size, 3, none⟩ = some (.int .i64 s.left) := X2.cell 3
    have f3 := X2.frozen 3
    have X3 := X2.setCell 3 (.int .i64 (-1))
    have HE : Hid (((((((refAt s (laidTo (fun i => ks.getD i false) s.ws s.st s.ws.length) (.slice none 0 0)).set 1 (.slice none 0 0)).set 4 (.bool false)).set 3 (.int .i64 (-1)))).drop 0).take 5 = LE) := hide (by rw [HLE.out]; rfl)
    have hKs : Kept (fun _ => False) w (((w2.setCell ⟨w.heap.size, 1, none⟩ (.slice none 0 0)).setCell ⟨w.heap.size, 4, none⟩ (.bool false)).setCell ⟨w.heap.size, 3, none⟩ (.int .i64 (-1))) := ((hkA.setN (Nat.le_refl _)).setN (Nat.le_refl _)).setN (Nat.le_refl _)
    have hR1 := (Kept.setCell (S := fun k => k = w.heap.size) w2 ⟨w.heap.size, 1, none⟩ (.slice none 0 0) rfl).blk hw2 (fun h => hne h.symm)
    have hR2 := (Kept.setCell (S := fun k => k = w.heap.size) (w2.setCell ⟨w.heap.size, 1, none⟩ (.slice none 0 0)) ⟨w.heap.size, 4, none⟩ (.bool false) rfl).blk hR1 (fun h => hne h.symm)
    have hR3 := (Kept.setCell (S := fun k => k = w.heap.size) ((w2.setCell ⟨w.heap.size, 1, none⟩ (.slice none 0 0)).setCell ⟨w.heap.size, 4, none⟩ (.bool false)) ⟨w.heap.size, 3, none⟩ (.int .i64 (-1)) rfl).blk hR2 (fun h => hne h.symm)
    clear hR1 hR2
    go_wp2_with (first
      | ((with_reducible refine aw_load (t := 33) Try.agg33 rfl X3 (by simp [refAt]) HE.out ?_))
      | ((with_reducible refine aw_store (x := .tmp 4) (M := LE) Try.agg33 rfl rfl HE5.out HE1.out hR3 (by rw [HZ5.out]; decide) ?_); intro w5 hw5 hk5 hz5; rw [put_whole _ _ (by rw [HE5.out, HZ5.out])] at hw5; have Hz5 := hide hz5; clear hz5))
    have hkk : Kept (fun _ => False) w w5 := hKs.trans hk5 (fun i hi h => by omega)
    exact bodyPost_ret (results_cell (t := 4) (ty := 33) rfl Try.agg33 rfl hw5 HE5.out) rfl ⟨rfl, hkk⟩
  · cases he
    have hgb : Blk w g cur.toList 102 := by unfold Blk; simpa using hg
    have hcl : cur.toList.length = rc * 2 := by simpa using hcs
    have Hcl := hide hcl
    have Htk := hide htk
    clear hg hcs htk hcl
    have hmx : s.ws.length ≤ 9223372036854775807 := by unfold maxLen at hcm; omega
    go_loopw [10] (fun i wr => ∃ k : Nat, k ≤ s.ws.length ∧ i = .int .i64 k ∧ Blk wr w.heap.size (refAt s (laidTo (fun i => ks.getD i false) s.ws s.st k) (.slice (some ⟨g, 0, none⟩) s.ws.length rc)) 33 ∧ Blk wr w1.heap.size Z 33 ∧ Kept (fun _ => False) w wr) (fun i _ => s.ws.length - (intOf i).toNat)
    case atStart => exact ⟨0, Nat.zero_le _, rfl, b1, hw2, hkA⟩
    case round =>
      obtain ⟨k, hk, rfl, hbx, hrx, hkept⟩ := hrel
      clear hkA hw2 b1
      have hgr := hkept.blk hgb (fun h => h)
      have hgl := hgb.lt
      by_cases hlt : k < s.ws.length
      · obtain ⟨p, hp⟩ : ∃ p, s.ws[k]? = some p := ⟨_, List.getElem?_eq_getElem hlt⟩
        have hpo := HW.out p (List.mem_of_getElem? hp)
        have HM : Hid ((cur.toList.drop (k * 2)).take 2 = [.int .i64 p.1, .string (strV p.2)]) := hide (by
          rw [← flatR_at s.ws k p hp, ← Htk.out, List.drop_take, List.take_take]
          congr 1
          omega)
        have HM1 : Hid (∀ v ∈ [Value.int .i64 p.1, .string (strV p.2)], v.oneCell' = true) := hide (by intro v hv; simp at hv; rcases hv with rfl | rfl <;> rfl)
        have hbl := hbx.lt
        have hrl := hrx.lt
        obtain ⟨ao', kcap', hae, _, h3⟩ := HKp.out
        cases hae
        by_cases hik : k < ks.length
        · by_cases hkt : ks.getD k false = true
          ·
            have Hvs : Hid (laidTo (fun i => ks.getD i false) s.ws s.st (k + 1) = put (laidTo (fun i => ks.getD i false) s.ws s.st k) (64 * p.1) p.2) := hide (by rw [laidTo_succ _ s.ws s.st k p hp, if_pos hkt])
            have HLd := hide (fun W => laid_any W (laidTo (fun i => ks.getD i false) s.ws s.st k) p.2 p.1 hpo.2.1 (by rw [(HOk.out k (by omega)).1]; have := hpo.1; omega) (by rw [(HOk.out k (by omega)).1]; omega))
            rw [← Hvs.out] at HLd
            obtain ⟨kb, ko, rfl, hkc, _⟩ := h3 k hik
            rw [hkt] at hkc
            have Hkc := hide hkc
            clear hkc h3 hp hpo hkt
            generalize strV p.2 = T at *
            go_wp2_with (first
              | ((with_reducible refine aw_load Try.agg102 rfl hgr (by rw [Hcl.out]; omega) HM.out ?_))
              | ((with_reducible refine aw_alloc Hi74.out Hz74.out ?_); intro w2 hw2 hk2 hz2; have Hz2 := hide hz2; clear hz2)
              | ((with_reducible refine aw_store (M := [Value.int .i64 p.1, .string T]) Try.agg102 rfl rfl rfl HM1.out hw2 (by simp [Value.cells]) ?_); intro w3 hw3 hk3 hz3; rw [put_whole _ _ (by simp [Value.cells])] at hw3; have Hz3 := hide hz3; clear hz3; have bx3 := hk3.blk (hk2.blk hbx (fun h => h)) (fun h => by omega); have rx3 := hk3.blk (hk2.blk hrx (fun h => h)) (fun h => by omega); have kc := ((hkept.trans hk2 (fun _ _ h => h)).trans hk3 (fun i hi h => by have := hkept.size; omega)).cell Hkc.out (fun h => h); have l0 : w3.cell? ⟨wr.heap.size, 0, none⟩ = some (.int .i64 p.1) := hw3.cell 0; have l1 : w3.cell? ⟨wr.heap.size, 1, none⟩ = some (.string T) := hw3.cell 1; have c0 : w3.cell? ⟨w.heap.size, 0, none⟩ = some (.string (strV (laidTo (fun i => ks.getD i false) s.ws s.st k))) := bx3.cell 0)
              | (go_at_call 45; refine (HLd.out _).mono ?_; rintro e w5 ⟨rfl, hk5, hz5⟩; have Hz5 := hide hz5; clear hz5; have bx5 := hk5.blk bx3 (fun h => h); have rx5 := hk5.blk rx3 (fun h => h); have e0 : w5.cell? ⟨w.heap.size, 0, none⟩ = some (.string (strV (laidTo (fun i => ks.getD i false) s.ws s.st k))) := bx5.cell 0; have f0 := bx5.frozen 0))
            have hkk : Kept (fun _ => False) w w5 := ((hkept.trans hk2 (fun _ _ h => h)).trans hk3 (fun i hi h => by have := hkept.size; omega)).trans hk5 (fun _ _ h => h)
            have bx6 : Blk (w5.setCell ⟨w.heap.size, 0, none⟩ (.string (strV (laidTo (fun i => ks.getD i false) s.ws s.st (k + 1))))) w.heap.size (refAt s (laidTo (fun i => ks.getD i false) s.ws s.st (k + 1)) (.slice (some ⟨g, 0, none⟩) s.ws.length rc)) 33 := bx5.setCell 0 _
            have rx6 := (Kept.setCell (S := fun k => k = w.heap.size) w5 ⟨w.heap.size, 0, none⟩ (.string (strV (laidTo (fun i => ks.getD i false) s.ws s.st (k + 1)))) rfl).blk rx5 (fun h => hne h.symm)
            go_roundw
            case rel => exact ⟨k + 1, by omega, by go_num, bx6, rx6, hkk.setN (Nat.le_refl _)⟩
            case measure => simp [intOf]; omega
          · simp only [Bool.not_eq_true] at hkt
            have Hvs : Hid (laidTo (fun i => ks.getD i false) s.ws s.st (k + 1) = laidTo (fun i => ks.getD i false) s.ws s.st k) := hide (by rw [laidTo_succ _ s.ws s.st k p hp, if_neg (fun h => by rw [hkt] at h; cases h)])
            obtain ⟨kb, ko, rfl, hkc, _⟩ := h3 k hik
            rw [hkt] at hkc
            have Hkc := hide hkc
            clear hkc h3 hp hpo hkt
            generalize strV p.2 = T at *
            go_wp2_with (first
              | ((with_reducible refine aw_load Try.agg102 rfl hgr (by rw [Hcl.out]; omega) HM.out ?_))
              | ((with_reducible refine aw_alloc Hi74.out Hz74.out ?_); intro w2 hw2 hk2 hz2; have Hz2 := hide hz2; clear hz2)
              | ((with_reducible refine aw_store (M := [Value.int .i64 p.1, .string T]) Try.agg102 rfl rfl rfl HM1.out hw2 (by simp [Value.cells]) ?_); intro w3 hw3 hk3 hz3; rw [put_whole _ _ (by simp [Value.cells])] at hw3; have Hz3 := hide hz3; clear hz3; have bx3 := hk3.blk (hk2.blk hbx (fun h => h)) (fun h => by omega); have rx3 := hk3.blk (hk2.blk hrx (fun h => h)) (fun h => by omega); have kc := ((hkept.trans hk2 (fun _ _ h => h)).trans hk3 (fun i hi h => by have := hkept.size; omega)).cell Hkc.out (fun h => h))
              )
            have hkk : Kept (fun _ => False) w w3 := (hkept.trans hk2 (fun _ _ h => h)).trans hk3 (fun i hi h => by have := hkept.size; omega)
            have bx6 : Blk w3 w.heap.size (refAt s (laidTo (fun i => ks.getD i false) s.ws s.st (k + 1)) (.slice (some ⟨g, 0, none⟩) s.ws.length rc)) 33 := by rw [Hvs.out]; exact bx3
            have rx6 := rx3
            go_roundw
            case rel => exact ⟨k + 1, by omega, by go_num, bx6, rx6, hkk⟩
            case measure => simp [intOf]; omega
        ·
          have hkt : ks.getD k false = false := by simp [List.getD, List.getElem?_eq_none (show ks.length ≤ k by omega)]
          have Hvs : Hid (laidTo (fun i => ks.getD i false) s.ws s.st (k + 1) = laidTo (fun i => ks.getD i false) s.ws s.st k) := hide (by rw [laidTo_succ _ s.ws s.st k p hp, if_neg (fun h => by rw [hkt] at h; cases h)])
          clear h3 hp hpo hkt
          generalize strV p.2 = T at *
          go_wp2_with (first
            | ((with_reducible refine aw_load Try.agg102 rfl hgr (by rw [Hcl.out]; omega) HM.out ?_))
            | ((with_reducible refine aw_alloc Hi74.out Hz74.out ?_); intro w2 hw2 hk2 hz2; have Hz2 := hide hz2; clear hz2)
            | ((with_reducible refine aw_store (M := [Value.int .i64 p.1, .string T]) Try.agg102 rfl rfl rfl HM1.out hw2 (by simp [Value.cells]) ?_); intro w3 hw3 hk3 hz3; rw [put_whole _ _ (by simp [Value.cells])] at hw3; have Hz3 := hide hz3; clear hz3; have bx3 := hk3.blk (hk2.blk hbx (fun h => h)) (fun h => by omega); have rx3 := hk3.blk (hk2.blk hrx (fun h => h)) (fun h => by omega))
            )
          have hkk : Kept (fun _ => False) w w3 := (hkept.trans hk2 (fun _ _ h => h)).trans hk3 (fun i hi h => by have := hkept.size; omega)
          have bx6 : Blk w3 w.heap.size (refAt s (laidTo (fun i => ks.getD i false) s.ws s.st (k + 1)) (.slice (some ⟨g, 0, none⟩) s.ws.length rc)) 33 := by rw [Hvs.out]; exact bx3
          have rx6 := rx3
          go_roundw
          case rel => exact ⟨k + 1, by omega, by go_num, bx6, rx6, hkk⟩
          case measure => simp [intOf]; omega
      · obtain rfl : k = s.ws.length := by omega
        have d1 : wr.cell? ⟨w.heap.size, 1, none⟩ = some (.slice (some ⟨g, 0, none⟩) s.ws.length rc) := hbx.cell 1
        have f1 := hbx.frozen 1
        have X1 := hbx.setCell 1 (.slice none 0 0)
        have e4 : (wr.setCell ⟨w.heap.size, 1, none⟩ (.slice none 0 0)).cell? ⟨w.heap.size, 4, none⟩ = some (.bool s.off) := X1.cell 4
        have f4 := X1.frozen 4
        have X2 := X1.setCell 4 (.bool false)
        have e3 : ((wr.setCell ⟨w.heap.size, 1, none⟩ (.slice none 0 0)).setCell ⟨w.heap.size, 4, none⟩ (.bool false)).cell? ⟨w.heap.size, 3, none⟩ = some (.int .i64 s.left) := X2.cell 3
        have f3 := X2.frozen 3
        have X3 := X2.setCell 3 (.int .i64 (-1))
        have HE : Hid (((((((refAt s (laidTo (fun i => ks.getD i false) s.ws s.st s.ws.length) (.slice (some ⟨g, 0, none⟩) s.ws.length rc)).set 1 (.slice none 0 0)).set 4 (.bool false)).set 3 (.int .i64 (-1)))).drop 0).take 5 = LE) := hide (by rw [HLE.out]; rfl)
        have hKs : Kept (fun _ => False) w (((wr.setCell ⟨w.heap.size, 1, none⟩ (.slice none 0 0)).setCell ⟨w.heap.size, 4, none⟩ (.bool false)).setCell ⟨w.heap.size, 3, none⟩ (.int .i64 (-1))) := ((hkept.setN (Nat.le_refl _)).setN (Nat.le_refl _)).setN (Nat.le_refl _)
        have hR1 := (Kept.setCell (S := fun k => k = w.heap.size) wr ⟨w.heap.size, 1, none⟩ (.slice none 0 0) rfl).blk hrx (fun h => hne h.symm)
        have hR2 := (Kept.setCell (S := fun k => k = w.heap.size) (wr.setCell ⟨w.heap.size, 1, none⟩ (.slice none 0 0)) ⟨w.heap.size, 4, none⟩ (.bool false) rfl).blk hR1 (fun h => hne h.symm)
        have hR3 := (Kept.setCell (S := fun k => k = w.heap.size) ((wr.setCell ⟨w.heap.size, 1, none⟩ (.slice none 0 0)).setCell ⟨w.heap.size, 4, none⟩ (.bool false)) ⟨w.heap.size, 3, none⟩ (.int .i64 (-1)) rfl).blk hR2 (fun h => hne h.symm)
        clear hR1 hR2
        go_wp2_with (first
          | ((with_reducible refine aw_load (t := 33) Try.agg33 rfl X3 (by simp [refAt]) HE.out ?_))
          | ((with_reducible refine aw_store (x := .tmp 4) (M := LE) Try.agg33 rfl rfl HE5.out HE1.out hR3 (by rw [HZ5.out]; decide) ?_); intro w5 hw5 hk5 hz5; rw [put_whole _ _ (by rw [HE5.out, HZ5.out])] at hw5; have Hz5 := hide hz5; clear hz5))
        have hkk : Kept (fun _ => False) w w5 := hKs.trans hk5 (fun i hi h => by omega)
        exact bodyPost_ret (results_cell (t := 4) (ty := 33) rfl Try.agg33 rfl hw5 HE5.out) rfl ⟨rfl, hkk⟩

end Go.Proofs.Ytnlcmgdeohbmoaa.D

/-
  The reference's Write.
-/
namespace Go.Proofs.Ytnlcmgdeohbmoaa.D
open Go.RowKit Go.Shelf
set_option linter.unusedSimpArgs false
set_option linter.unusedVariables false
set_option maxRecDepth 100000

set_option maxHeartbeats 1000000 in
theorem refWrite_off (w : World) (s : DS) (ro : Option Addr) (rl rc : Nat) (a : Int) (bo : Option Addr) (bl bc : Nat) (ho : s.off = true) :
    Calls Try.prog 42 #[refA s (.slice ro rl rc), .int .i64 a, .slice bo bl bc] w fun e w' => e = .returned (.tuple #[refA s (.slice ro rl rc), .int .i64 10]) ∧ Kept (fun _ => False) w w' := by
  have HO := hide ho
  clear ho
  have HR1 := hide (refL_one s ro rl rc)
  obtain ⟨i40, hi40, hz40, hs40, hb40⟩ := info_parts Try.info33
  have Hi40 := hide hi40
  have Hz40 := hide hz40
  clear hi40 hz40 hs40 hb40
  rw [refL_A]
  obtain ⟨L, hL⟩ : ∃ L, L = refL s (.slice ro rl rc) := ⟨_, rfl⟩
  rw [← hL] at HR1 ⊢
  have HL5 : Hid (L.length = 5) := hide (by rw [hL]; rfl)
  have HLd : Hid ((L.drop 0).take 5 = L) := hide (by rw [hL]; rfl)
  have HL4 : Hid (L[4]? = some (.bool true)) := hide (by rw [hL]; simp [refL, HO.out])
  clear hL
  go_enter Try.func42, Try.ntmps42
  go_wp2_with (first
    | ((with_reducible refine aw_box (dst := some 3) rfl ?_); intro w1 hw1 hk1 hz1; have Hz1 := hide hz1; clear hz1)
    | ((with_reducible refine aw_alloc (dst := some 6) Hi40.out Hz40.out ?_); intro w2 hw2 hk2 hz2; have Hz2 := hide hz2; clear hz2; have b1 : Blk w2 w.heap.size L 33 := hk2.blk hw1 (fun h => h); have c4 := (b1.cell 4).trans HL4.out)
    | ((with_reducible refine aw_load (dst := some 13) Try.agg33 rfl b1 (by rw [HL5.out]; decide) HLd.out ?_))
    | ((with_reducible refine aw_store (x := .tmp 6) Try.agg33 rfl rfl HL5.out HR1.out hw2 (by simp [Value.cells]) ?_); intro w3 hw3 hk3 hz3; rw [put_whole _ _ (by rw [HL5.out]; simp [Value.cells])] at hw3; have Hz3 := hide hz3; clear hz3))
  have hkk : Kept (fun _ => False) w w3 := (hk1.trans hk2 (fun _ _ h => h)).trans hk3 (fun i hi h => by have := hk1.size; omega)
  exact bodyPost_ret (results_cell_tmp (t := 6) (u := 7) (ty := 33) rfl Try.agg33 rfl hw3 HL5.out rfl) rfl ⟨rfl, hkk⟩

set_option maxHeartbeats 1000000 in
theorem refWrite_arg (w : World) (s : DS) (ro : Option Addr) (rl rc : Nat) (a : Int) (bo : Option Addr) (bl bc : Nat) (ho : s.off = false) (hbl : bl ≤ 2000) (hm : bl % 64 ≠ 0) :
    Calls Try.prog 42 #[refA s (.slice ro rl rc), .int .i64 a, .slice bo bl bc] w fun e w' => e = .returned (.tuple #[refA s (.slice ro rl rc), .int .i64 2]) ∧ Kept (fun _ => False) w w' := by
  have HO := hide ho
  clear ho
  have HR1 := hide (refL_one s ro rl rc)
  obtain ⟨i40, hi40, hz40, hs40, hb40⟩ := info_parts Try.info33
  have Hi40 := hide hi40
  have Hz40 := hide hz40
  clear hi40 hz40 hs40 hb40
  rw [refL_A]
  obtain ⟨L, hL⟩ : ∃ L, L = refL s (.slice ro rl rc) := ⟨_, rfl⟩
  rw [← hL] at HR1 ⊢
  have HL5 : Hid (L.length = 5) := hide (by rw [hL]; rfl)
  have HLd : Hid ((L.drop 0).take 5 = L) := hide (by rw [hL]; rfl)
  have HL4 : Hid (L[4]? = some (.bool false)) := hide (by rw [hL]; simp [refL, HO.out])
  clear hL
  go_enter Try.func42, Try.ntmps42
  go_wp2_with (first
    | ((with_reducible refine aw_box (dst := some 3) rfl ?_); intro w1 hw1 hk1 hz1; have Hz1 := hide hz1; clear hz1)
    | ((with_reducible refine aw_alloc (dst := some 6) Hi40.out Hz40.out ?_); intro w2 hw2 hk2 hz2; have Hz2 := hide hz2; clear hz2; have b1 : Blk w2 w.heap.size L 33 := hk2.blk hw1 (fun h => h); have c4 := (b1.cell 4).trans HL4.out)
    | ((with_reducible refine aw_load (dst := some 18) Try.agg33 rfl b1 (by rw [HL5.out]; decide) HLd.out ?_))
    | ((with_reducible refine aw_store (x := .tmp 6) Try.agg33 rfl rfl HL5.out HR1.out hw2 (by simp [Value.cells]) ?_); intro w3 hw3 hk3 hz3; rw [put_whole _ _ (by rw [HL5.out]; simp [Value.cells])] at hw3; have Hz3 := hide hz3; clear hz3))
  have hkk : Kept (fun _ => False) w w3 := (hk1.trans hk2 (fun _ _ h => h)).trans hk3 (fun i hi h => by have := hk1.size; omega)
  exact bodyPost_ret (results_cell_tmp (t := 6) (u := 7) (ty := 33) rfl Try.agg33 rfl hw3 HL5.out rfl) rfl ⟨rfl, hkk⟩

set_option maxHeartbeats 1000000 in
theorem refWrite_range (w : World) (s : DS) (n : Nat) (hl : s.st.length = 64 * n) (hn : n ≤ 4096) (ro : Option Addr) (rl rc : Nat) (a : Int) (ha : a ≤ 9223372036854775807) (bo : Option Addr) (m bc : Nat) (hm : m ≤ 4096) (ho : s.off = false) (hh : hasB n a m = false) :
    Calls Try.prog 42 #[refA s (.slice ro rl rc), .int .i64 a, .slice bo (64 * m) bc] w fun e w' => e = .returned (.tuple #[refA s (.slice ro rl rc), .int .i64 11]) ∧ Kept (fun _ => False) w w' := by
  have HT := hide (fun W => there_any W s n hl hn ro rl rc a m ha)
  have HN := hide hh
  have HO := hide ho
  clear ho hh hl
  have HR1 := hide (refL_one s ro rl rc)
  obtain ⟨i40, hi40, hz40, hs40, hb40⟩ := info_parts Try.info33
  have Hi40 := hide hi40
  have Hz40 := hide hz40
  clear hi40 hz40 hs40 hb40
  rw [refL_A]
  rw [refL_A] at HT
  obtain ⟨L, hL⟩ : ∃ L, L = refL s (.slice ro rl rc) := ⟨_, rfl⟩
  rw [← hL] at HR1 HT ⊢
  have HL5 : Hid (L.length = 5) := hide (by rw [hL]; rfl)
  have HLd : Hid ((L.drop 0).take 5 = L) := hide (by rw [hL]; rfl)
  have HL4 : Hid (L[4]? = some (.bool false)) := hide (by rw [hL]; simp [refL, HO.out])
  clear hL
  have hq : ((64 * m : Nat) : Int) / 64 = (m : Int) := by omega
  go_enter Try.func42, Try.ntmps42
  go_wp2_with (first
    | ((with_reducible refine aw_box (dst := some 3) rfl ?_); intro w1 hw1 hk1 hz1; have Hz1 := hide hz1; clear hz1)
    | ((with_reducible refine aw_alloc (dst := some 6) Hi40.out Hz40.out ?_); intro w2 hw2 hk2 hz2; have Hz2 := hide hz2; clear hz2; have b1 : Blk w2 w.heap.size L 33 := hk2.blk hw1 (fun h => h); have c4 := (b1.cell 4).trans HL4.out)
    | ((with_reducible refine aw_load (dst := some 19) Try.agg33 rfl b1 (by rw [HL5.out]; decide) HLd.out ?_))
    | (go_at_call 63; refine (HT.out _).mono ?_; rintro e w3 ⟨rfl, hk3⟩; rw [HN.out]; have b3 := hk3.blk b1 (fun h => h); have r3 := hk3.blk hw2 (fun h => h))
    | ((with_reducible refine aw_load (dst := some 26) Try.agg33 rfl b3 (by rw [HL5.out]; decide) HLd.out ?_))
    | ((with_reducible refine aw_store (x := .tmp 6) Try.agg33 rfl rfl HL5.out HR1.out r3 (by simp [Value.cells]) ?_); intro w4 hw4 hk4 hz4; rw [put_whole _ _ (by rw [HL5.out]; simp [Value.cells])] at hw4; have Hz4 := hide hz4; clear hz4))
  have hkk : Kept (fun _ => False) w w4 := ((hk1.trans hk2 (fun _ _ h => h)).trans hk3 (fun _ _ h => h)).trans hk4 (fun i hi h => by have := hk1.size; omega)
  exact bodyPost_ret (results_cell_tmp (t := 6) (u := 7) (ty := 33) rfl Try.agg33 rfl hw4 HL5.out rfl) rfl ⟨rfl, hkk⟩

set_option maxHeartbeats 1000000 in
theorem refWrite_limit (w : World) (s : DS) (n : Nat) (hl : s.st.length = 64 * n) (hn : n ≤ 4096) (ro : Option Addr) (rl rc : Nat) (a : Int) (ha : a ≤ 9223372036854775807) (bo : Option Addr) (m bc : Nat) (hm : m ≤ 4096) (ho : s.off = false) (hh : hasB n a m = true) (hz : s.left = 0) (hc : s.calls < 4611686018427387904) :
    Calls Try.prog 42 #[refA s (.slice ro rl rc), .int .i64 a, .slice bo (64 * m) bc] w fun e w' => e = .returned (.tuple #[refA s.spent (.slice ro rl rc), .int .i64 10]) ∧ Kept (fun _ => False) w w' := by
  have HT := hide (fun W => there_any W s n hl hn ro rl rc a m ha)
  have HCa := hide (fun W => call_any W s ro rl rc (by omega) (by omega) hc)
  have HN := hide hh
  have HO := hide ho
  have HG : Hid (s.goes = false) := hide (by simp [DS.goes, hz])
  clear ho hh hl hz
  have HR1 := hide (refL_one s ro rl rc)
  have HR2 := hide (refL_one s.spent ro rl rc)
  obtain ⟨i40, hi40, hz40, hs40, hb40⟩ := info_parts Try.info33
  have Hi40 := hide hi40
  have Hz40 := hide hz40
  clear hi40 hz40 hs40 hb40
  rw [refL_A, refL_A]
  rw [refL_A] at HT
  rw [refL_A, refL_A] at HCa
  obtain ⟨L, hL⟩ : ∃ L, L = refL s (.slice ro rl rc) := ⟨_, rfl⟩
  obtain ⟨L2, hL2⟩ : ∃ L, L = refL s.spent (.slice ro rl rc) := ⟨_, rfl⟩
  rw [← hL] at HR1 HT HCa ⊢
  rw [← hL2] at HR2 HCa ⊢
  have HL5 : Hid (L.length = 5) := hide (by rw [hL]; rfl)
  have HLd : Hid ((L.drop 0).take 5 = L) := hide (by rw [hL]; rfl)
  have HL4 : Hid (L[4]? = some (.bool false)) := hide (by rw [hL]; simp [refL, HO.out])
  have HM5 : Hid (L2.length = 5) := hide (by rw [hL2]; rfl)
  have HMd : Hid ((L2.drop 0).take 5 = L2) := hide (by rw [hL2]; rfl)
  clear hL hL2
  have hq : ((64 * m : Nat) : Int) / 64 = (m : Int) := by omega
  go_enter Try.func42, Try.ntmps42
  go_wp2_with (first
    | ((with_reducible refine aw_box (dst := some 3) rfl ?_); intro w1 hw1 hk1 hz1; have Hz1 := hide hz1; clear hz1)
    | ((with_reducible refine aw_alloc (dst := some 6) Hi40.out Hz40.out ?_); intro w2 hw2 hk2 hz2; have Hz2 := hide hz2; clear hz2; have b1 : Blk w2 w.heap.size L 33 := hk2.blk hw1 (fun h => h); have c4 := (b1.cell 4).trans HL4.out)
    | ((with_reducible refine aw_load (dst := some 19) Try.agg33 rfl b1 (by rw [HL5.out]; decide) HLd.out ?_))
    | (go_at_call 63; refine (HT.out _).mono ?_; rintro e w3 ⟨rfl, hk3⟩; rw [HN.out]; have b3 := hk3.blk b1 (fun h => h); have r3 := hk3.blk hw2 (fun h => h))
    | ((with_reducible refine aw_load (dst := some 28) Try.agg33 rfl b3 (by rw [HL5.out]; decide) HLd.out ?_))
    | (go_at_call 64; refine (HCa.out _).mono ?_; rintro e w4 ⟨rfl, hk4⟩; rw [HG.out]; have b4 := hk4.blk b3 (fun h => h); have r4 := hk4.blk r3 (fun h => h))
    | ((with_reducible refine aw_store (x := .tmp 3) Try.agg33 rfl rfl HM5.out HR2.out b4 (by rw [HL5.out]; decide) ?_); intro w5 hw5 hk5 hz5; rw [put_whole _ _ (by rw [HL5.out, HM5.out])] at hw5; have Hz5 := hide hz5; clear hz5; have r5 := hk5.blk r4 (fun h => by have := hw1.lt; omega))
    | ((with_reducible refine aw_load (dst := some 34) Try.agg33 rfl hw5 (by rw [HM5.out]; decide) HMd.out ?_))
    | ((with_reducible refine aw_store (x := .tmp 6) Try.agg33 rfl rfl HM5.out HR2.out r5 (by simp [Value.cells]) ?_); intro w6 hw6 hk6 hz6; rw [put_whole _ _ (by rw [HM5.out]; simp [Value.cells])] at hw6; have Hz6 := hide hz6; clear hz6))
  have hkk : Kept (fun _ => False) w w6 := ((((hk1.trans hk2 (fun _ _ h => h)).trans hk3 (fun _ _ h => h)).trans hk4 (fun _ _ h => h)).trans hk5 (fun i hi h => by omega)).trans hk6 (fun i hi h => by have := hk1.size; omega)
  exact bodyPost_ret (results_cell_tmp (t := 6) (u := 7) (ty := 33) rfl Try.agg33 rfl hw6 HM5.out rfl) rfl ⟨rfl, hkk⟩

end Go.Proofs.Ytnlcmgdeohbmoaa.D
