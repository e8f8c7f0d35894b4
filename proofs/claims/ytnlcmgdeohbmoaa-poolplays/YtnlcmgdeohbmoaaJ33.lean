/-
  The reference's Read.
-/
import Derived.Test.YtnlcmgdeohbmoaaJ32
namespace Go.Proofs.Ytnlcmgdeohbmoaa.D
open Go.RowKit Go.Shelf
set_option linter.unusedSimpArgs false
set_option linter.unusedVariables false
set_option maxRecDepth 100000

def flatR (ws : List (Nat × List Value)) : List Value := ws.flatMap fun p => [.int .i64 p.1, .string (strV p.2)]
theorem flatR_length : ∀ ws : List (Nat × List Value), (flatR ws).length = ws.length * 2
  | [] => rfl
  | p :: ws => by
    have := flatR_length ws
    simp only [flatR, List.flatMap_cons, List.length_append, List.length_cons, List.length_nil] at this ⊢
    omega
theorem flatR_at : ∀ (ws : List (Nat × List Value)) (k : Nat) (p : Nat × List Value), ws[k]? = some p → ((flatR ws).drop (k * 2)).take 2 = [.int .i64 p.1, .string (strV p.2)]
  | [], k, p, hp => by simp at hp
  | q :: ws, 0, p, hp => by simp at hp; subst hp; simp [flatR]
  | q :: ws, k + 1, p, hp => by
    have := flatR_at ws k p (by simpa using hp)
    rw [← this]
    simp only [flatR, List.flatMap_cons]
    rw [show (k + 1) * 2 = k * 2 + 1 + 1 by omega]
    simp

theorem stop_slice {P : Program} {ops : Array Oper} {Q : Exit → Act → World → Prop} {a : Act} {w : World} {rest : List Oper} {dst : Option Tmp} {ty : TypeId} {pos : String} {aft : Array Edge} {x : Operand} {lo hi mx : Option Operand} (t : TypeId)
    (h : Hid (wpList P ops Q (⟨dst, .slice t x lo hi mx, ty, pos, aft, none⟩ :: rest) a w)) : wpList P ops Q (⟨dst, .slice t x lo hi mx, ty, pos, aft, none⟩ :: rest) a w := h.out

set_option maxHeartbeats 1000000 in
theorem refRead_off (w : World) (s : DS) (ro : Option Addr) (rl rc : Nat) (a m : Int) (ho : s.off = true) :
    Calls Try.prog 41 #[refA s (.slice ro rl rc), .int .i64 a, .int .i64 m] w fun e w' => e = .returned (.tuple #[.string (strV []), .int .i64 10]) ∧ Kept (fun _ => False) w w' := by
  have HO := hide ho
  unfold refA
  rw [ho]
  clear ho
  go_enter Try.func41, Try.ntmps41
  go_wp2
  go_ret2
  exact ⟨rfl, Kept.alloc _ _ _⟩

set_option maxHeartbeats 1000000 in
theorem refRead_range (w : World) (s : DS) (n : Nat) (hl : s.st.length = 64 * n) (hn : n ≤ 4096) (ro : Option Addr) (rl rc : Nat) (a m : Int) (ha : a ≤ 9223372036854775807) (ho : s.off = false) (hh : hasB n a m = false) :
    Calls Try.prog 41 #[refA s (.slice ro rl rc), .int .i64 a, .int .i64 m] w fun e w' => e = .returned (.tuple #[.string (strV []), .int .i64 11]) ∧ Kept (fun _ => False) w w' := by
  have HT := hide (fun W => there_any W s n hl hn ro rl rc a m ha)
  have HN := hide hh
  unfold refA at HT ⊢
  rw [ho] at HT ⊢
  clear ho hh hl
  generalize strV s.st = S at *
  go_enter Try.func41, Try.ntmps41
  go_wp2_with (go_at_call 63; refine (HT.out _).mono ?_; rintro e w1 ⟨rfl, hk1⟩; rw [HN.out])
  go_ret2
  exact ⟨rfl, (Kept.alloc _ _ _).trans hk1 (fun _ _ h => h)⟩

set_option maxRecDepth 100000 in
set_option maxHeartbeats 2000000 in
theorem refRead_ok (w : World) (s : DS) (n : Nat) (hl : s.st.length = 64 * n) (hn : n ≤ 4096) (rv : Value) (how : w.ownsRow 0 102 2 rv s.ws.length (flatR s.ws)) (hw : ∀ p ∈ s.ws, okWait n p) (hB : ∀ v ∈ s.st, isByte v) (a m : Nat) (ham : a + m ≤ n) (ho : s.off = false) :
    Calls Try.prog 41 #[refA s rv, .int .i64 a, .int .i64 m] w fun e w' => e = .returned (.tuple #[.string (strV (part s.view a m)), .int .i64 0]) ∧ Kept (fun _ => False) w w' := by
  have hok : ∀ k, k ≤ s.ws.length → (view s.ws s.st k).length = 64 * n ∧ ∀ v ∈ view s.ws s.st k, isByte v := laidTo_ok (fun _ => true) n s.ws s.st hw hl hB
  have HT := hide (fun W ro rl rc => there_any W s n hl hn ro rl rc a m (by omega))
  have HN := hide (hasB_nat n a m ham)
  have HW := hide hw
  have HOk := hide hok
  unfold refA at HT ⊢
  rw [ho] at HT ⊢
  have hS0 : strV s.st = strV (view s.ws s.st 0) := rfl
  clear ho hl hok hw hB
  obtain ⟨S, hS⟩ : ∃ S, S = strV s.st := ⟨_, rfl⟩
  rw [← hS] at HT hS0 ⊢
  have HS := hide hS
  have HS0 := hide hS0
  clear hS hS0
  obtain ⟨i74, hi74, hz74, hs74, hb74⟩ := info_parts Try.info102
  have Hi74 := hide hi74
  have Hz74 := hide hz74
  clear hi74 hz74 hs74 hb74
  rcases how.2 with ⟨rfl, hz⟩ | ⟨g, cap, cur, rfl, _, hg, hnc, hcm, hcs, htk⟩
  · have hws : s.ws = [] := List.eq_nil_of_length_eq_zero hz
    have HWs := hide hws
    clear hz hws
    go_enter Try.func41, Try.ntmps41
    go_wp2_with (go_at_call 63; refine (HT.out _ _ _ _).mono ?_; rintro e w1 ⟨rfl, hk1⟩; rw [HN.out]; have b1 := hk1.blk (Blk.newA w _ 33) (fun h => h); have c0 := b1.cell 0; have c1 := b1.cell 1; simp only [List.toList_toArray, List.getElem?_cons_zero, List.getElem?_cons_succ] at c0 c1)
    refine wp_loop_rounds 1 ?_
    rw [rounds_succ]
    have HV : S = strV (view s.ws s.st s.ws.length) := by rw [HS0.out, HWs.out]; rfl
    have HV' := hide HV
    clear HV
    go_wp2_with (with_reducible refine stop_slice 9 ?_)
    refine hide ?_
    refine wpList_run rfl (r_sliceS2 (M := view s.ws s.st s.ws.length) (l := 64 * a) (h := 64 * (a + m)) (k1 := .i64) (k2 := .i64) (by rw [← HV'.out]; rfl) (by simp [Act.eval]) (by simp [Act.eval]) (by omega) (by rw [(HOk.out _ (Nat.le_refl _)).1]; omega)) ?_
    have HP : (List.take (64 * (a + m)) (view s.ws s.st s.ws.length)).drop (64 * a) = part s.view a m := by
      rw [List.drop_take, show 64 * (a + m) - 64 * a = 64 * m by omega]; rfl
    rw [HP]
    go_wp2
    go_ret2
    exact ⟨rfl, (Kept.alloc _ _ _).trans hk1 (fun _ _ h => h)⟩
  · have hgb : Blk w g cur.toList 102 := by unfold Blk; simpa using hg
    have hcl : cur.toList.length = cap * 2 := by simpa using hcs
    have Hcl := hide hcl
    have Htk := hide htk
    clear hg hcs htk hcl
    have hmx : s.ws.length ≤ 9223372036854775807 := by unfold maxLen at hcm; omega
    go_enter Try.func41, Try.ntmps41
    go_wp2_with (go_at_call 63; refine (HT.out _ _ _ _).mono ?_; rintro e w1 ⟨rfl, hk1⟩; rw [HN.out]; have b1 := hk1.blk (Blk.newA w _ 33) (fun h => h); have c0 := b1.cell 0; have c1 := b1.cell 1; simp only [List.toList_toArray, List.getElem?_cons_zero, List.getElem?_cons_succ] at c0 c1)
    have hk01 : Kept (fun _ => False) w w1 := (Kept.alloc _ _ _).trans hk1 (fun _ _ h => h)
    clear b1 c0 c1 hk1
    go_loopw [8, 23] (fun sv i wr => ∃ k : Nat, k ≤ s.ws.length ∧ i = .int .i64 k ∧ sv = .string (strV (view s.ws s.st k)) ∧ Kept (fun _ => False) w wr) (fun _ i _ => s.ws.length - (intOf i).toNat)
    case atStart => exact ⟨0, Nat.zero_le _, rfl, by rw [HS0.out], hk01⟩
    case round =>
      obtain ⟨k, hk, rfl, rfl, hkept⟩ := hrel
      clear hk01
      have hgr := hkept.blk hgb (fun h => h)
      by_cases hlt : k < s.ws.length
      · obtain ⟨p, hp⟩ : ∃ p, s.ws[k]? = some p := ⟨_, List.getElem?_eq_getElem hlt⟩
        have hpo := HW.out p (List.mem_of_getElem? hp)
        have HM : Hid ((cur.toList.drop (k * 2)).take 2 = [.int .i64 p.1, .string (strV p.2)]) := hide (by
          rw [← flatR_at s.ws k p hp, ← Htk.out, List.drop_take, List.take_take]
          congr 1
          omega)
        have hvs : view s.ws s.st (k + 1) = put (view s.ws s.st k) (64 * p.1) p.2 := laidTo_succ _ s.ws s.st k p hp
        have Hvs := hide hvs
        have HLd := hide (fun W => laid_any W (view s.ws s.st k) p.2 p.1 hpo.2.1 (by rw [(HOk.out k (by omega)).1]; have := hpo.1; omega) (by rw [(HOk.out k (by omega)).1]; omega))
        have HM1 : Hid (∀ v ∈ [Value.int .i64 p.1, .string (strV p.2)], v.oneCell' = true) := hide (by intro v hv; simp at hv; rcases hv with rfl | rfl <;> rfl)
        clear hp hpo hvs
        generalize strV p.2 = T at *
        generalize strV (view s.ws s.st k) = V at *
        go_wp2_with (first
          | ((with_reducible refine aw_load Try.agg102 rfl hgr (by rw [Hcl.out]; omega) HM.out ?_))
          | ((with_reducible refine aw_alloc Hi74.out Hz74.out ?_); intro w2 hw2 hk2 hz2; have Hz2 := hide hz2; clear hz2)
          | ((with_reducible refine aw_store (M := [Value.int .i64 p.1, .string T]) Try.agg102 rfl rfl rfl HM1.out hw2 (by simp [Value.cells]) ?_); intro w3 hw3 hk3 hz3; rw [put_whole _ _ (by simp [Value.cells])] at hw3; have Hz3 := hide hz3; clear hz3; have l0 : w3.cell? ⟨wr.heap.size, 0, none⟩ = some (.int .i64 p.1) := hw3.cell 0; have l1 : w3.cell? ⟨wr.heap.size, 1, none⟩ = some (.string T) := hw3.cell 1)
          | (go_at_call 45; refine (HLd.out _).mono ?_; rintro e w4 ⟨rfl, hk4, hz4⟩; have Hz4 := hide hz4; clear hz4))
        have hkk : Kept (fun _ => False) w w4 := ((hkept.trans hk2 (fun _ _ h => h)).trans hk3 (fun i hi h => by have := hkept.size; omega)).trans hk4 (fun _ _ h => h)
        go_roundw
        case rel => exact ⟨k + 1, by omega, by go_num, by rw [Hvs.out], hkk⟩
        case measure => simp [intOf]; omega
      · obtain rfl : k = s.ws.length := by omega
        have HV : True := trivial
        go_wp2_with (with_reducible refine stop_slice 9 ?_)
        refine hide ?_
        refine wpList_run rfl (r_sliceS2 (M := view s.ws s.st s.ws.length) (l := 64 * a) (h := 64 * (a + m)) (k1 := .i64) (k2 := .i64) rfl (by simp [Act.eval]) (by simp [Act.eval]) (by omega) (by rw [(HOk.out _ (Nat.le_refl _)).1]; omega)) ?_
        have HP : (List.take (64 * (a + m)) (view s.ws s.st s.ws.length)).drop (64 * a) = part s.view a m := by
          rw [List.drop_take, show 64 * (a + m) - 64 * a = 64 * m by omega]; rfl
        rw [HP]
        go_wp2
        go_ret2
        exact ⟨rfl, hkept⟩

end Go.Proofs.Ytnlcmgdeohbmoaa.D

/-
  The reference's Flush and Crash.
-/
namespace Go.Proofs.Ytnlcmgdeohbmoaa.D
open Go.RowKit Go.Shelf
set_option linter.unusedSimpArgs false
set_option linter.unusedVariables false
set_option maxRecDepth 100000

def refL (s : DS) (rv : Value) : List Value := [.string (strV s.st), rv, .int .i64 s.calls, .int .i64 s.left, .bool s.off]
theorem refL_one (s : DS) (ro : Option Addr) (rl rc : Nat) : ∀ v ∈ refL s (.slice ro rl rc), v.oneCell' = true := by
  intro v hv
  simp [refL] at hv
  rcases hv with rfl | rfl | rfl | rfl | rfl <;> rfl
theorem refL_len (s : DS) (rv : Value) : (refL s rv).length = 5 := rfl
theorem refL_A (s : DS) (rv : Value) : refA s rv = .agg (refL s rv).toArray := rfl

set_option maxHeartbeats 1000000 in
theorem refFlush_off (w : World) (s : DS) (ro : Option Addr) (rl rc : Nat) (ho : s.off = true) :
    Calls Try.prog 43 #[refA s (.slice ro rl rc)] w fun e w' => e = .returned (.tuple #[refA s (.slice ro rl rc), .int .i64 10]) ∧ Kept (fun _ => False) w w' := by
  have HO := hide ho
  clear ho
  have HR1 := hide (refL_one s ro rl rc)
  obtain ⟨i40, hi40, hz40, hs40, hb40⟩ := info_parts Try.info33
  have Hi40 := hide hi40
  have Hz40 := hide hz40
  clear hi40 hz40 hs40 hb40
  rw [refL_A]
  obtain ⟨L, hL⟩ : ∃ L, L = refL s (.slice ro rl rc) := ⟨_, rfl⟩
  rw [← hL] at HR1 ⊢
  have HL5 : Hid (L.length = 5) := hide (by rw [hL]; rfl)
  have HLd : Hid ((L.drop 0).take 5 = L) := hide (by rw [hL]; rfl)
  have HL4 : Hid (L[4]? = some (.bool true)) := hide (by rw [hL]; simp [refL, HO.out])
  clear hL
  go_enter Try.func43, Try.ntmps43
  go_wp2_with (first
    | ((with_reducible refine aw_box (dst := some 1) rfl ?_); intro w1 hw1 hk1 hz1; have Hz1 := hide hz1; clear hz1)
    | ((with_reducible refine aw_alloc (dst := some 2) Hi40.out Hz40.out ?_); intro w2 hw2 hk2 hz2; have Hz2 := hide hz2; clear hz2; have b1 : Blk w2 w.heap.size L 33 := hk2.blk hw1 (fun h => h); have c4 := (b1.cell 4).trans HL4.out)
    | ((with_reducible refine aw_load (dst := some 9) Try.agg33 rfl b1 (by rw [HL5.out]; decide) HLd.out ?_))
    | ((with_reducible refine aw_store (x := .tmp 2) Try.agg33 rfl rfl HL5.out HR1.out hw2 (by simp [Value.cells]) ?_); intro w3 hw3 hk3 hz3; rw [put_whole _ _ (by rw [HL5.out]; simp [Value.cells])] at hw3; have Hz3 := hide hz3; clear hz3))
  have hkk : Kept (fun _ => False) w w3 := (hk1.trans hk2 (fun _ _ h => h)).trans hk3 (fun i hi h => by have := hk1.size; omega)
  exact bodyPost_ret (results_cell_tmp (t := 2) (u := 3) (ty := 33) rfl Try.agg33 rfl hw3 HL5.out rfl) rfl ⟨rfl, hkk⟩

set_option maxHeartbeats 1000000 in
theorem refFlush_limit (w : World) (s : DS) (ro : Option Addr) (rl rc : Nat) (ho : s.off = false) (hz : s.left = 0) (l1 : -1 ≤ s.left) (l2 : s.left ≤ 9223372036854775807) (hc : s.calls < 4611686018427387904) :
    Calls Try.prog 43 #[refA s (.slice ro rl rc)] w fun e w' => e = .returned (.tuple #[refA s.spent (.slice ro rl rc), .int .i64 10]) ∧ Kept (fun _ => False) w w' := by
  have HCa := hide (fun W => call_any W s ro rl rc l1 l2 hc)
  have HR1 := hide (refL_one s ro rl rc)
  have HR2 := hide (refL_one s.spent ro rl rc)
  obtain ⟨i40, hi40, hz40, hs40, hb40⟩ := info_parts Try.info33
  have Hi40 := hide hi40
  have Hz40 := hide hz40
  clear hi40 hz40 hs40 hb40
  have HG : Hid (s.goes = false) := hide (by simp [DS.goes, hz])
  rw [refL_A, refL_A]
  rw [refL_A, refL_A] at HCa
  obtain ⟨L, hL⟩ : ∃ L, L = refL s (.slice ro rl rc) := ⟨_, rfl⟩
  obtain ⟨L2, hL2⟩ : ∃ L, L = refL s.spent (.slice ro rl rc) := ⟨_, rfl⟩
  rw [← hL] at HR1 HCa ⊢
  rw [← hL2] at HR2 HCa ⊢
  have HL5 : Hid (L.length = 5) := hide (by rw [hL]; rfl)
  have HLd : Hid ((L.drop 0).take 5 = L) := hide (by rw [hL]; rfl)
  have HL4 : Hid (L[4]? = some (.bool false)) := hide (by rw [hL]; simp [refL, ho])
  have HM5 : Hid (L2.length = 5) := hide (by rw [hL2]; rfl)
  have HMd : Hid ((L2.drop 0).take 5 = L2) := hide (by rw [hL2]; rfl)
  clear hL hL2 ho hz l1 l2
  go_enter Try.func43, Try.ntmps43
  go_wp2_with (first
    | ((with_reducible refine aw_box (dst := some 1) rfl ?_); intro w1 hw1 hk1 hz1; have Hz1 := hide hz1; clear hz1)
    | ((with_reducible refine aw_alloc (dst := some 2) Hi40.out Hz40.out ?_); intro w2 hw2 hk2 hz2; have Hz2 := hide hz2; clear hz2; have b1 : Blk w2 w.heap.size L 33 := hk2.blk hw1 (fun h => h); have c4 := (b1.cell 4).trans HL4.out)
    | ((with_reducible refine aw_load (dst := some 11) Try.agg33 rfl b1 (by rw [HL5.out]; decide) HLd.out ?_))
    | (go_at_call 64; refine (HCa.out _).mono ?_; rintro e w3 ⟨rfl, hk3⟩; rw [HG.out]; have b3 := hk3.blk b1 (fun h => h); have r3 := hk3.blk hw2 (fun h => h))
    | ((with_reducible refine aw_store (x := .tmp 1) Try.agg33 rfl rfl HM5.out HR2.out b3 (by rw [HL5.out]; decide) ?_); intro w4 hw4 hk4 hz4; rw [put_whole _ _ (by rw [HL5.out, HM5.out])] at hw4; have Hz4 := hide hz4; clear hz4; have r4 := hk4.blk r3 (fun h => by have := hw1.lt; omega))
    | ((with_reducible refine aw_load (dst := some 17) Try.agg33 rfl hw4 (by rw [HM5.out]; decide) HMd.out ?_))
    | ((with_reducible refine aw_store (x := .tmp 2) Try.agg33 rfl rfl HM5.out HR2.out r4 (by simp [Value.cells]) ?_); intro w5 hw5 hk5 hz5; rw [put_whole _ _ (by rw [HM5.out]; simp [Value.cells])] at hw5; have Hz5 := hide hz5; clear hz5))
  have hkk : Kept (fun _ => False) w w5 := ((((hk1.trans hk2 (fun _ _ h => h)).trans hk3 (fun _ _ h => h)).trans hk4 (fun i hi h => by omega)).trans hk5 (fun i hi h => by have := hk1.size; omega))
  exact bodyPost_ret (results_cell_tmp (t := 2) (u := 3) (ty := 33) rfl Try.agg33 rfl hw5 HM5.out rfl) rfl ⟨rfl, hkk⟩

/-- The reference's device while sectors are laid on it. -/
def refAt (s : DS) (st : List Value) (rv : Value) : List Value := [.string (strV st), rv, .int .i64 s.calls, .int .i64 s.left, .bool s.off]

set_option maxRecDepth 100000 in
set_option maxHeartbeats 4000000 in
theorem refFlush_ok (w : World) (s : DS) (n : Nat) (hl : s.st.length = 64 * n) (hn : n ≤ 4096) (rv : Value) (how : w.ownsRow 0 102 2 rv s.ws.length (flatR s.ws)) (hw : ∀ p ∈ s.ws, okWait n p) (hB : ∀ v ∈ s.st, isByte v)
    (ho : s.off = false) (hz : s.left ≠ 0) (l1 : -1 ≤ s.left) (l2 : s.left ≤ 9223372036854775807) (hc : s.calls < 4611686018427387904) :
    Calls Try.prog 43 #[refA s rv] w fun e w' => e = .returned (.tuple #[refA { s.spent with st := s.view, ws := [] } (.slice none 0 0), .int .i64 0]) ∧ Kept (fun _ => False) w w' := by
  obtain ⟨ro, rl, rc, rfl⟩ : ∃ ro rl rc, rv = .slice ro rl rc := by
    rcases how.2 with ⟨rfl, _⟩ | ⟨g, cap, cur, rfl, _⟩
    · exact ⟨_, _, _, rfl⟩
    · exact ⟨_, _, _, rfl⟩
  have HCa := hide (fun W => call_any W s ro rl rc l1 l2 hc)
  have HR1 := hide (refL_one s ro rl rc)
  have HR2 := hide (refL_one s.spent ro rl rc)
  obtain ⟨i40, hi40, hz40, hs40, hb40⟩ := info_parts Try.info33
  have Hi40 := hide hi40
  have Hz40 := hide hz40
  clear hi40 hz40 hs40 hb40
  have HG : Hid (s.goes = true) := hide (by simp [DS.goes, hz])
  have hok : ∀ k, k ≤ s.ws.length → (view s.ws s.st k).length = 64 * n ∧ ∀ v ∈ view s.ws s.st k, isByte v := laidTo_ok (fun _ => true) n s.ws s.st hw hl hB
  have HOk := hide hok
  have HW := hide hw
  have HS2 : Hid (refL s.spent (.slice ro rl rc) = refAt s.spent (view s.ws s.st 0) (.slice ro rl rc)) := hide (by unfold refL refAt; rw [s.spent_ws.2]; rfl)
  have HF : Hid (refA { s.spent with st := s.view, ws := [] } (.slice none 0 0) = .agg (refAt s.spent s.view (.slice none 0 0)).toArray) := hide rfl
  rw [HF.out]
  obtain ⟨LE, hLE⟩ : ∃ LE, LE = refAt s.spent s.view (.slice none 0 0) := ⟨_, rfl⟩
  rw [← hLE]
  have HLE := hide hLE
  have HE5 : Hid (LE.length = 5) := hide (by rw [hLE]; rfl)
  have HE1 : Hid (∀ v ∈ LE, v.oneCell' = true) := hide (by rw [hLE]; intro v hv; simp [refAt] at hv; rcases hv with rfl | rfl | rfl | rfl | rfl <;> rfl)
  clear hLE
  rw [refL_A]
  rw [refL_A, refL_A, HS2.out] at HCa
  rw [HS2.out] at HR2
  obtain ⟨L, hL⟩ : ∃ L, L = refL s (.slice ro rl rc) := ⟨_, rfl⟩
  obtain ⟨L2, hL2⟩ : ∃ L, L = refAt s.spent (view s.ws s.st 0) (.slice ro rl rc) := ⟨_, rfl⟩
  rw [← hL] at HR1 HCa ⊢
  rw [← hL2] at HR2 HCa
  have HL5 : Hid (L.length = 5) := hide (by rw [hL]; rfl)
  have HLd : Hid ((L.drop 0).take 5 = L) := hide (by rw [hL]; rfl)
  have HL4 : Hid (L[4]? = some (.bool false)) := hide (by rw [hL]; simp [refL, ho])
  have HM5 : Hid (L2.length = 5) := hide (by rw [hL2]; rfl)
  have HM1 : Hid (L2[1]? = some (.slice ro rl rc)) := hide (by rw [hL2]; rfl)
  have HL2 := hide hL2
  obtain ⟨i74, hi74, hz74, hs74, hb74⟩ := info_parts Try.info102
  have Hi74 := hide hi74
  have Hz74 := hide hz74
  clear hL hL2 ho hz l1 l2 hok hw hl hB hi74 hz74 hs74 hb74
  have HCx := hide how
  clear how
  go_enter Try.func43, Try.ntmps43
  go_wp2_with (first
    | ((with_reducible refine aw_box (dst := some 1) rfl ?_); intro w1 hw1 hk1 hz1; have Hz1 := hide hz1; clear hz1)
    | ((with_reducible refine aw_alloc (dst := some 2) Hi40.out Hz40.out ?_); intro w2 hw2 hk2 hz2; have Hz2 := hide hz2; clear hz2; have b1 : Blk w2 w.heap.size L 33 := hk2.blk hw1 (fun h => h); have c4 := (b1.cell 4).trans HL4.out)
    | ((with_reducible refine aw_load (dst := some 11) Try.agg33 rfl b1 (by rw [HL5.out]; decide) HLd.out ?_))
    | (go_at_call 64; refine (HCa.out _).mono ?_; rintro e w3 ⟨rfl, hk3⟩; rw [HG.out]; have b3 := hk3.blk b1 (fun h => h); have r3 := hk3.blk hw2 (fun h => h))
    | ((with_reducible refine aw_store (x := .tmp 1) Try.agg33 rfl rfl HM5.out HR2.out b3 (by rw [HL5.out]; decide) ?_); intro w4 hw4 hk4 hz4; rw [put_whole _ _ (by rw [HL5.out, HM5.out])] at hw4; have Hz4 := hide hz4; clear hz4; have r4 := hk4.blk r3 (fun h => by have := hw1.lt; omega); have d1 := (hw4.cell 1).trans HM1.out))
  have hkA : Kept (fun _ => False) w w4 := ((hk1.trans hk2 (fun _ _ h => h)).trans hk3 (fun _ _ h => h)).trans hk4 (fun i hi h => by omega)
  have hlt1 := hw1.lt
  have hne : w.heap.size ≠ w1.heap.size := by omega
  rw [HL2.out] at hw4
  have hge1 : w.heap.size ≤ w1.heap.size := by omega
  clear c4 HCa HR1 HR2 HL5 HLd HL4 HM5 HM1 b1 b3 r3 hk1 hk2 hk3 hk4 hw1 hw2 Hz1 Hz2 Hz4 d1
  obtain ⟨Z, hZ⟩ : ∃ Z, Z = (Value.agg #[.string ⟨#[]⟩, .slice none 0 0, .int .i64 0, .int .i64 0, .bool false]).cells.toList := ⟨_, rfl⟩
  rw [← hZ] at r4
  have HZ5 : Hid (Z.length = 5) := hide (by rw [hZ]; simp [Value.cells])
  clear hZ
  rcases HCx.out.2 with ⟨he, hz⟩ | ⟨g, cap, cur, he, _, hg, hnc, hcm, hcs, htk⟩
  · cases he
    have hws : s.ws = [] := List.eq_nil_of_length_eq_zero hz
    refine wp_loop_rounds 1 ?_
    rw [rounds_succ]
    have HV : Hid (view s.ws s.st 0 = s.view) := hide (by rw [DS.view, hws]; rfl)
    rw [HV.out] at hw4
    clear hz hws
    have hX := hw4
    have d1 : w4.cell? ⟨w.heap.size, 1, none⟩ = some (.slice none 0 0) := hX.cell 1
    have f1 := hX.frozen 1
    have HE : Hid ((((refAt s.spent s.view (.slice none 0 0)).set 1 (.slice none 0 0)).drop 0).take 5 = LE) := hide (by rw [HLE.out]; rfl)
    have hXs := hX.setCell 1 (.slice none 0 0)
    have hRs := (Kept.setCell (S := fun k => k = w.heap.size) w4 ⟨w.heap.size, 1, none⟩ (.slice none 0 0) rfl).blk r4 (fun h => hne h.symm)
    have hKs : Kept (fun _ => False) w (w4.setCell ⟨w.heap.size, 1, none⟩ (.slice none 0 0)) := hkA.setN (Nat.le_refl _)
    go_wp2_with (first
      | ((with_reducible refine aw_load (t := 33) Try.agg33 rfl hXs (by simp [refAt]) HE.out ?_))
      | ((with_reducible refine aw_store (x := .tmp 2) (M := LE) Try.agg33 rfl rfl HE5.out HE1.out hRs (by rw [HZ5.out]; decide) ?_); intro w5 hw5 hk5 hz5; rw [put_whole _ _ (by rw [HE5.out, HZ5.out])] at hw5; have Hz5 := hide hz5; clear hz5))
    have hkk : Kept (fun _ => False) w w5 := hKs.trans hk5 (fun i hi h => by omega)
    exact bodyPost_ret (results_cell_tmp (t := 2) (u := 3) (ty := 33) rfl Try.agg33 rfl hw5 HE5.out rfl) rfl ⟨rfl, hkk⟩
  · cases he
    have hgb : Blk w g cur.toList 102 := by unfold Blk; simpa using hg
    have hcl : cur.toList.length = rc * 2 := by simpa using hcs
    have Hcl := hide hcl
    have Htk := hide htk
    clear hg hcs htk hcl
    have hmx : s.ws.length ≤ 9223372036854775807 := by unfold maxLen at hcm; omega
    go_loopw [21] (fun i wr => ∃ k : Nat, k ≤ s.ws.length ∧ i = .int .i64 k ∧ Blk wr w.heap.size (refAt s.spent (view s.ws s.st k) (.slice (some ⟨g, 0, none⟩) s.ws.length rc)) 33 ∧ Blk wr w1.heap.size Z 33 ∧ Kept (fun _ => False) w wr) (fun i _ => s.ws.length - (intOf i).toNat)
    case atStart => exact ⟨0, Nat.zero_le _, rfl, hw4, r4, hkA⟩
    case round =>
      obtain ⟨k, hk, rfl, hbx, hrx, hkept⟩ := hrel
      clear hkA hw4 r4
      have hgr := hkept.blk hgb (fun h => h)
      have hgl := hgb.lt
      by_cases hlt : k < s.ws.length
      · obtain ⟨p, hp⟩ : ∃ p, s.ws[k]? = some p := ⟨_, List.getElem?_eq_getElem hlt⟩
        have hpo := HW.out p (List.mem_of_getElem? hp)
        have HM : Hid ((cur.toList.drop (k * 2)).take 2 = [.int .i64 p.1, .string (strV p.2)]) := hide (by
          rw [← flatR_at s.ws k p hp, ← Htk.out, List.drop_take, List.take_take]
          congr 1
          omega)
        have hvs : view s.ws s.st (k + 1) = put (view s.ws s.st k) (64 * p.1) p.2 := laidTo_succ _ s.ws s.st k p hp
        have Hvs := hide hvs
        have HLd := hide (fun W => laid_any W (view s.ws s.st k) p.2 p.1 hpo.2.1 (by rw [(HOk.out k (by omega)).1]; have := hpo.1; omega) (by rw [(HOk.out k (by omega)).1]; omega))
        have HM1 : Hid (∀ v ∈ [Value.int .i64 p.1, .string (strV p.2)], v.oneCell' = true) := hide (by intro v hv; simp at hv; rcases hv with rfl | rfl <;> rfl)
        rw [← hvs] at HLd
        clear hp hpo hvs
        have hbl := hbx.lt
        have hrl := hrx.lt
        generalize strV p.2 = T at *
        go_wp2_with (first
          | ((with_reducible refine aw_load Try.agg102 rfl hgr (by rw [Hcl.out]; omega) HM.out ?_))
          | ((with_reducible refine aw_alloc Hi74.out Hz74.out ?_); intro w2 hw2 hk2 hz2; have Hz2 := hide hz2; clear hz2)
          | ((with_reducible refine aw_store (M := [Value.int .i64 p.1, .string T]) Try.agg102 rfl rfl rfl HM1.out hw2 (by simp [Value.cells]) ?_); intro w3 hw3 hk3 hz3; rw [put_whole _ _ (by simp [Value.cells])] at hw3; have Hz3 := hide hz3; clear hz3; have l0 : w3.cell? ⟨wr.heap.size, 0, none⟩ = some (.int .i64 p.1) := hw3.cell 0; have l1 : w3.cell? ⟨wr.heap.size, 1, none⟩ = some (.string T) := hw3.cell 1; have bx3 := hk3.blk (hk2.blk hbx (fun h => h)) (fun h => by omega); have rx3 := hk3.blk (hk2.blk hrx (fun h => h)) (fun h => by omega); have c0 : w3.cell? ⟨w.heap.size, 0, none⟩ = some (.string (strV (view s.ws s.st k))) := bx3.cell 0)
          | (go_at_call 45; refine (HLd.out _).mono ?_; rintro e w5 ⟨rfl, hk5, hz5⟩; have Hz5 := hide hz5; clear hz5; have bx5 := hk5.blk bx3 (fun h => h); have rx5 := hk5.blk rx3 (fun h => h); have e0 : w5.cell? ⟨w.heap.size, 0, none⟩ = some (.string (strV (view s.ws s.st k))) := bx5.cell 0; have f0 := bx5.frozen 0))
        have hkk : Kept (fun _ => False) w w5 := ((hkept.trans hk2 (fun _ _ h => h)).trans hk3 (fun i hi h => by have := hkept.size; omega)).trans hk5 (fun _ _ h => h)
        have bx6 : Blk (w5.setCell ⟨w.heap.size, 0, none⟩ (.string (strV (view s.ws s.st (k + 1))))) w.heap.size (refAt s.spent (view s.ws s.st (k + 1)) (.slice (some ⟨g, 0, none⟩) s.ws.length rc)) 33 := bx5.setCell 0 _
        have rx6 := (Kept.setCell (S := fun k => k = w.heap.size) w5 ⟨w.heap.size, 0, none⟩ (.string (strV (view s.ws s.st (k + 1)))) rfl).blk rx5 (fun h => hne h.symm)
        go_roundw
        case rel => exact ⟨k + 1, by omega, by go_num, bx6, rx6, hkk.setN (Nat.le_refl _)⟩
        case measure => simp [intOf]; omega
      · obtain rfl : k = s.ws.length := by omega
        have hbv : Blk wr w.heap.size (refAt s.spent s.view (.slice (some ⟨g, 0, none⟩) s.ws.length rc)) 33 := hbx
        have hX := hbv
        have d1 : wr.cell? ⟨w.heap.size, 1, none⟩ = some (.slice (some ⟨g, 0, none⟩) s.ws.length rc) := hX.cell 1
        have f1 := hX.frozen 1
        have HE : Hid ((((refAt s.spent s.view (.slice (some ⟨g, 0, none⟩) s.ws.length rc)).set 1 (.slice none 0 0)).drop 0).take 5 = LE) := hide (by rw [HLE.out]; rfl)
        have hXs := hX.setCell 1 (.slice none 0 0)
        have hRs := (Kept.setCell (S := fun k => k = w.heap.size) wr ⟨w.heap.size, 1, none⟩ (.slice none 0 0) rfl).blk hrx (fun h => hne h.symm)
        have hKs : Kept (fun _ => False) w (wr.setCell ⟨w.heap.size, 1, none⟩ (.slice none 0 0)) := hkept.setN (Nat.le_refl _)
        go_wp2_with (first
          | ((with_reducible refine aw_load (t := 33) Try.agg33 rfl hXs (by simp [refAt]) HE.out ?_))
          | ((with_reducible refine aw_store (x := .tmp 2) (M := LE) Try.agg33 rfl rfl HE5.out HE1.out hRs (by rw [HZ5.out]; decide) ?_); intro w5 hw5 hk5 hz5; rw [put_whole _ _ (by rw [HE5.out, HZ5.out])] at hw5; have Hz5 := hide hz5; clear hz5))
        have hkk : Kept (fun _ => False) w w5 := hKs.trans hk5 (fun i hi h => by omega)
        exact bodyPost_ret (results_cell_tmp (t := 2) (u := 3) (ty := 33) rfl Try.agg33 rfl hw5 HE5.out rfl) rfl ⟨rfl, hkk⟩

end Go.Proofs.Ytnlcmgdeohbmoaa.D
