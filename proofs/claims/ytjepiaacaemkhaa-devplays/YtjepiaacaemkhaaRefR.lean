/-
  The reference's Read.
-/
import Derived.Test.YtjepiaacaemkhaaRefF
namespace Go.Proofs.Ytjepiaacaemkhaa
open Go.RowKit Go.Shelf
set_option linter.unusedSimpArgs false
set_option linter.unusedVariables false

def flatR (ws : List (Nat × List Value)) : List Value := ws.flatMap fun p => [.int .i64 p.1, .string (strV p.2)]
theorem flatR_length : ∀ ws : List (Nat × List Value), (flatR ws).length = ws.length * 2
  | [] => rfl
  | p :: ws => by
    have := flatR_length ws
    simp only [flatR, List.flatMap_cons, List.length_append, List.length_cons, List.length_nil] at this ⊢
    omega
theorem flatR_at : ∀ (ws : List (Nat × List Value)) (k : Nat) (p : Nat × List Value), ws[k]? = some p → ((flatR ws).drop (k * 2)).take 2 = [.int .i64 p.1, .string (strV p.2)]
  | [], k, p, hp => by simp at hp
  | q :: ws, 0, p, hp => by simp at hp; subst hp; simp [flatR]
  | q :: ws, k + 1, p, hp => by
    have := flatR_at ws k p (by simpa using hp)
    rw [← this]
    simp only [flatR, List.flatMap_cons]
    rw [show (k + 1) * 2 = k * 2 + 1 + 1 by omega]
    simp

theorem stop_slice {P : Program} {ops : Array Oper} {Q : Exit → Act → World → Prop} {a : Act} {w : World} {rest : List Oper} {dst : Option Tmp} {ty : TypeId} {pos : String} {aft : Array Edge} {x : Operand} {lo hi mx : Option Operand} (t : TypeId)
    (h : Hid (wpList P ops Q (⟨dst, .slice t x lo hi mx, ty, pos, aft, none⟩ :: rest) a w)) : wpList P ops Q (⟨dst, .slice t x lo hi mx, ty, pos, aft, none⟩ :: rest) a w := h.out

set_option maxHeartbeats 1000000 in
theorem refRead_off (w : World) (s : DS) (ro : Option Addr) (rl rc : Nat) (a m : Int) (ho : s.off = true) :
    Calls Try.prog 20 #[refA s (.slice ro rl rc), .int .i64 a, .int .i64 m] w fun e w' => e = .returned (.tuple #[.string (strV []), .int .i64 10]) ∧ Kept (fun _ => False) w w' := by
  have HO := hide ho
  unfold refA
  rw [ho]
  clear ho
  go_enter Try.func20, Try.ntmps20
  go_wp2
  go_ret2
  exact ⟨rfl, Kept.alloc _ _ _⟩

set_option maxHeartbeats 1000000 in
theorem refRead_range (w : World) (s : DS) (n : Nat) (hl : s.st.length = 64 * n) (hn : n ≤ 4096) (ro : Option Addr) (rl rc : Nat) (a m : Int) (ha : a ≤ 9223372036854775807) (ho : s.off = false) (hh : hasB n a m = false) :
    Calls Try.prog 20 #[refA s (.slice ro rl rc), .int .i64 a, .int .i64 m] w fun e w' => e = .returned (.tuple #[.string (strV []), .int .i64 11]) ∧ Kept (fun _ => False) w w' := by
  have HT := hide (fun W => there_any W s n hl hn ro rl rc a m ha)
  have HN := hide hh
  unfold refA at HT ⊢
  rw [ho] at HT ⊢
  clear ho hh hl
  generalize strV s.st = S at *
  go_enter Try.func20, Try.ntmps20
  go_wp2_with (go_at_call 34; refine (HT.out _).mono ?_; rintro e w1 ⟨rfl, hk1⟩; rw [HN.out])
  go_ret2
  exact ⟨rfl, (Kept.alloc _ _ _).trans hk1 (fun _ _ h => h)⟩

set_option maxRecDepth 100000 in
set_option maxHeartbeats 2000000 in
theorem refRead_ok (w : World) (s : DS) (n : Nat) (hl : s.st.length = 64 * n) (hn : n ≤ 4096) (rv : Value) (how : w.ownsRow 0 74 2 rv s.ws.length (flatR s.ws)) (hw : ∀ p ∈ s.ws, okWait n p) (hB : ∀ v ∈ s.st, isByte v) (a m : Nat) (ham : a + m ≤ n) (ho : s.off = false) :
    Calls Try.prog 20 #[refA s rv, .int .i64 a, .int .i64 m] w fun e w' => e = .returned (.tuple #[.string (strV (part s.view a m)), .int .i64 0]) ∧ Kept (fun _ => False) w w' := by
  have hok : ∀ k, k ≤ s.ws.length → (view s.ws s.st k).length = 64 * n ∧ ∀ v ∈ view s.ws s.st k, isByte v := laidTo_ok (fun _ => true) n s.ws s.st hw hl hB
  have HT := hide (fun W ro rl rc => there_any W s n hl hn ro rl rc a m (by omega))
  have HN := hide (hasB_nat n a m ham)
  have HW := hide hw
  have HOk := hide hok
  unfold refA at HT ⊢
  rw [ho] at HT ⊢
  have hS0 : strV s.st = strV (view s.ws s.st 0) := rfl
  clear ho hl hok hw hB
  obtain ⟨S, hS⟩ : ∃ S, S = strV s.st := ⟨_, rfl⟩
  rw [← hS] at HT hS0 ⊢
  have HS := hide hS
  have HS0 := hide hS0
  clear hS hS0
  obtain ⟨i74, hi74, hz74, hs74, hb74⟩ := info_parts Try.info74
  have Hi74 := hide hi74
  have Hz74 := hide hz74
  clear hi74 hz74 hs74 hb74
  rcases how.2 with ⟨rfl, hz⟩ | ⟨g, cap, cur, rfl, _, hg, hnc, hcm, hcs, htk⟩
  · have hws : s.ws = [] := List.eq_nil_of_length_eq_zero hz
    have HWs := hide hws
    clear hz hws
    go_enter Try.func20, Try.ntmps20
    go_wp2_with (go_at_call 34; refine (HT.out _ _ _ _).mono ?_; rintro e w1 ⟨rfl, hk1⟩; rw [HN.out]; have b1 := hk1.blk (Blk.newA w _ 40) (fun h => h); have c0 := b1.cell 0; have c1 := b1.cell 1; simp only [List.toList_toArray, List.getElem?_cons_zero, List.getElem?_cons_succ] at c0 c1)
    refine wp_loop_rounds 1 ?_
    rw [rounds_succ]
    have HV : S = strV (view s.ws s.st s.ws.length) := by rw [HS0.out, HWs.out]; rfl
    have HV' := hide HV
    clear HV
    go_wp2_with (with_reducible refine stop_slice 9 ?_)
    refine hide ?_
    refine wpList_run rfl (r_sliceS2 (M := view s.ws s.st s.ws.length) (l := 64 * a) (h := 64 * (a + m)) (k1 := .i64) (k2 := .i64) (by rw [← HV'.out]; rfl) (by simp [Act.eval]) (by simp [Act.eval]) (by omega) (by rw [(HOk.out _ (Nat.le_refl _)).1]; omega)) ?_
    have HP : (List.take (64 * (a + m)) (view s.ws s.st s.ws.length)).drop (64 * a) = part s.view a m := by
      rw [List.drop_take, show 64 * (a + m) - 64 * a = 64 * m by omega]; rfl
    rw [HP]
    go_wp2
    go_ret2
    exact ⟨rfl, (Kept.alloc _ _ _).trans hk1 (fun _ _ h => h)⟩
  · have hgb : Blk w g cur.toList 74 := by unfold Blk; simpa using hg
    have hcl : cur.toList.length = cap * 2 := by simpa using hcs
    have Hcl := hide hcl
    have Htk := hide htk
    clear hg hcs htk hcl
    have hmx : s.ws.length ≤ 9223372036854775807 := by unfold maxLen at hcm; omega
    go_enter Try.func20, Try.ntmps20
    go_wp2_with (go_at_call 34; refine (HT.out _ _ _ _).mono ?_; rintro e w1 ⟨rfl, hk1⟩; rw [HN.out]; have b1 := hk1.blk (Blk.newA w _ 40) (fun h => h); have c0 := b1.cell 0; have c1 := b1.cell 1; simp only [List.toList_toArray, List.getElem?_cons_zero, List.getElem?_cons_succ] at c0 c1)
    have hk01 : Kept (fun _ => False) w w1 := (Kept.alloc _ _ _).trans hk1 (fun _ _ h => h)
    clear b1 c0 c1 hk1
    go_loopw [8, 23] (fun sv i wr => ∃ k : Nat, k ≤ s.ws.length ∧ i = .int .i64 k ∧ sv = .string (strV (view s.ws s.st k)) ∧ Kept (fun _ => False) w wr) (fun _ i _ => s.ws.length - (intOf i).toNat)
    case atStart => exact ⟨0, Nat.zero_le _, rfl, by rw [HS0.out], hk01⟩
    case round =>
      obtain ⟨k, hk, rfl, rfl, hkept⟩ := hrel
      clear hk01
      have hgr := hkept.blk hgb (fun h => h)
      by_cases hlt : k < s.ws.length
      · obtain ⟨p, hp⟩ : ∃ p, s.ws[k]? = some p := ⟨_, List.getElem?_eq_getElem hlt⟩
        have hpo := HW.out p (List.mem_of_getElem? hp)
        have HM : Hid ((cur.toList.drop (k * 2)).take 2 = [.int .i64 p.1, .string (strV p.2)]) := hide (by
          rw [← flatR_at s.ws k p hp, ← Htk.out, List.drop_take, List.take_take]
          congr 1
          omega)
        have hvs : view s.ws s.st (k + 1) = put (view s.ws s.st k) (64 * p.1) p.2 := laidTo_succ _ s.ws s.st k p hp
        have Hvs := hide hvs
        have HLd := hide (fun W => laid_any W (view s.ws s.st k) p.2 p.1 hpo.2.1 (by rw [(HOk.out k (by omega)).1]; have := hpo.1; omega) (by rw [(HOk.out k (by omega)).1]; omega))
        have HM1 : Hid (∀ v ∈ [Value.int .i64 p.1, .string (strV p.2)], v.oneCell' = true) := hide (by intro v hv; simp at hv; rcases hv with rfl | rfl <;> rfl)
        clear hp hpo hvs
        generalize strV p.2 = T at *
        generalize strV (view s.ws s.st k) = V at *
        go_wp2_with (first
          | ((with_reducible refine aw_load Try.agg74 rfl hgr (by rw [Hcl.out]; omega) HM.out ?_))
          | ((with_reducible refine aw_alloc Hi74.out Hz74.out ?_); intro w2 hw2 hk2 hz2; have Hz2 := hide hz2; clear hz2)
          | ((with_reducible refine aw_store (M := [Value.int .i64 p.1, .string T]) Try.agg74 rfl rfl rfl HM1.out hw2 (by simp [Value.cells]) ?_); intro w3 hw3 hk3 hz3; rw [put_whole _ _ (by simp [Value.cells])] at hw3; have Hz3 := hide hz3; clear hz3; have l0 : w3.cell? ⟨wr.heap.size, 0, none⟩ = some (.int .i64 p.1) := hw3.cell 0; have l1 : w3.cell? ⟨wr.heap.size, 1, none⟩ = some (.string T) := hw3.cell 1)
          | (go_at_call 35; refine (HLd.out _).mono ?_; rintro e w4 ⟨rfl, hk4, hz4⟩; have Hz4 := hide hz4; clear hz4))
        have hkk : Kept (fun _ => False) w w4 := ((hkept.trans hk2 (fun _ _ h => h)).trans hk3 (fun i hi h => by have := hkept.size; omega)).trans hk4 (fun _ _ h => h)
        go_roundw
        case rel => exact ⟨k + 1, by omega, by go_num, by rw [Hvs.out], hkk⟩
        case measure => simp [intOf]; omega
      · obtain rfl : k = s.ws.length := by omega
        have HV : True := trivial
        go_wp2_with (with_reducible refine stop_slice 9 ?_)
        refine hide ?_
        refine wpList_run rfl (r_sliceS2 (M := view s.ws s.st s.ws.length) (l := 64 * a) (h := 64 * (a + m)) (k1 := .i64) (k2 := .i64) rfl (by simp [Act.eval]) (by simp [Act.eval]) (by omega) (by rw [(HOk.out _ (Nat.le_refl _)).1]; omega)) ?_
        have HP : (List.take (64 * (a + m)) (view s.ws s.st s.ws.length)).drop (64 * a) = part s.view a m := by
          rw [List.drop_take, show 64 * (a + m) - 64 * a = 64 * m by omega]; rfl
        rw [HP]
        go_wp2
        go_ret2
        exact ⟨rfl, hkept⟩

end Go.Proofs.Ytjepiaacaemkhaa
