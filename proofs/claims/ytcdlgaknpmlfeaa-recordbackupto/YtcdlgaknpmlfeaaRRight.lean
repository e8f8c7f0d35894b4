/-
  isPlace, areRight, Right, of package record.
-/
import Derived.Test.YtcdlgaknpmlfeaaRT
namespace Go.Proofs.Ytcdlgaknpmlfeaa
open Go.RowKit Go.Shelf
set_option linter.unusedSimpArgs false
set_option linter.unusedVariables false

def tnB (t n : Int) : Bool := decide (1 ≤ t ∧ t ≤ 2147483647 ∧ 0 ≤ n ∧ n ≤ 1099511627776)
set_option maxHeartbeats 1000000 in
theorem place_at (w : World) (t n : Int) : Calls Try.prog 30 #[.int .i64 t, .int .i64 n] w fun e w' => e = .returned (.bool (tnB t n)) ∧ w = w' := by
  have H : Hid (tnB t n = tnB t n) := hide rfl
  generalize hb : tnB t n = b
  have HB : Hid (tnB t n = b) := hide hb
  clear hb H
  by_cases h1 : 1 ≤ t
  · by_cases h2 : t ≤ 2147483647
    · by_cases h3 : 0 ≤ n
      · by_cases h4 : n ≤ 1099511627776
        · obtain rfl : b = true := by rw [← HB.out]; unfold tnB; simp; omega
          clear HB
          have h1' : ¬ t < 1 := by omega
          have h2' : ¬ 2147483647 < t := by omega
          have h3' : ¬ n < 0 := by omega
          have h4' : ¬ 1099511627776 < n := by omega
          go_enter Try.func30, Try.ntmps30
          go_wp2
          go_ret
          simp
        · obtain rfl : b = false := by rw [← HB.out]; unfold tnB; simp; omega
          clear HB
          have h1' : ¬ t < 1 := by omega
          have h2' : ¬ 2147483647 < t := by omega
          have h3' : ¬ n < 0 := by omega
          have h4' : 1099511627776 < n := by omega
          go_enter Try.func30, Try.ntmps30
          go_wp2
          go_ret
          simp
      · obtain rfl : b = false := by rw [← HB.out]; unfold tnB; simp; omega
        clear HB
        have h1' : ¬ t < 1 := by omega
        have h2' : ¬ 2147483647 < t := by omega
        have h3' : n < 0 := by omega
        go_enter Try.func30, Try.ntmps30
        go_wp2
        go_ret
        simp
    · obtain rfl : b = false := by rw [← HB.out]; unfold tnB; simp; omega
      clear HB
      have h1' : ¬ t < 1 := by omega
      have h2' : 2147483647 < t := by omega
      go_enter Try.func30, Try.ntmps30
      go_wp2
      go_ret
      simp
  · obtain rfl : b = false := by rw [← HB.out]; unfold tnB; simp; omega
    clear HB
    have h1' : t < 1 := by omega
    go_enter Try.func30, Try.ntmps30
    go_wp2
    go_ret
    simp

theorem good_step {l : List Wv} {k : Nat} {lo : Int} (hk : k < l.length) : goodFrom lo ((l.drop k).map Wv.wr) = (decide (lo < l[k].blk ∧ 0 ≤ l[k].blk ∧ l[k].blk < 64 ∧ l[k].B.length = 64) && goodFrom l[k].blk ((l.drop (k + 1)).map Wv.wr)) := by
  rw [List.drop_eq_getElem_cons hk, List.map_cons]
  rfl

set_option maxRecDepth 100000 in
set_option maxHeartbeats 4000000 in
theorem areRight_at (w : World) (v : Value) (l : List Wv) (h : WsAt w v l) : Calls Try.prog 31 #[v] w fun e w' => e = .returned (.bool (goodFrom (-1) (l.map Wv.wr))) ∧ Kept (fun _ => False) w w' := by
  obtain ⟨ao, cap, rfl⟩ := h.slice
  have hmax := h.2.2
  obtain ⟨i0, hi0, hz0, hs0, hb0⟩ := info_parts Try.info40
  have Hi0 := hide hi0
  have Hz0 := hide hz0
  have HW := hide h
  clear h hi0 hz0 hs0 hb0
  go_enter Try.func31, Try.ntmps31
  go_wp2
  go_loopw [3, 8] (fun nx i wr => ∃ (q : Int) (k : Nat), nx = .int .i64 q ∧ i = .int .i64 k ∧ 0 ≤ q ∧ q ≤ 64 ∧ k ≤ l.length ∧ Hid (goodFrom (-1) (l.map Wv.wr) = goodFrom (q - 1) ((l.drop k).map Wv.wr)) ∧ Kept (fun _ => False) w wr)
    (fun _ i _ => l.length - (intOf i).toNat)
  case atStart => exact ⟨0, 0, rfl, rfl, by omega, by omega, Nat.zero_le _, hide (by simp), Kept.refl _ _⟩
  case round =>
    obtain ⟨q, k, rfl, rfl, hq0, hq1, hk, HG, hkr⟩ := hrel
    by_cases hlt : k < l.length
    · obtain ⟨g, off, rfl, c0, c1, hsrc, hn⟩ := (HW.out.kept hkr).get hlt
      have HS := hide (good_step (lo := q - 1) hlt)
      have HN := hide hn
      obtain ⟨x, hx⟩ : ∃ x, x = l[k] := ⟨_, rfl⟩
      rw [← hx] at c0 c1 HS HN
      obtain ⟨bk, ⟨xa, xn, xc⟩, xB⟩ := x
      simp only at c0 c1 HS HN
      clear hsrc hn hx
      by_cases hb1 : bk < q
      · go_wp2_with (first
          | ((with_reducible refine aw_alloc (t := 40) Hi0.out Hz0.out ?_); intro w2 hw2 hk2 hz2; have Hz2 := hide hz2; clear hz2 c0 c1)
          | ((with_reducible refine aw_store (M := [.int .i64 bk, .slice xa xn xc]) Try.agg40 rfl rfl rfl (by simp [Value.oneCell']) hw2 (by simp [Value.cells]) ?_); intro w3 hw3 hk3 hz3; rw [put_whole _ _ (by simp [Value.cells])] at hw3; have d0 : w3.cell? ⟨wr.heap.size, 0, none⟩ = some (.int .i64 bk) := hw3.cell 0; have d1 : w3.cell? ⟨wr.heap.size, 1, none⟩ = some (.slice xa xn xc) := hw3.cell 1; have HK3 := hide (hk2.trans hk3 (fun i hi h => by omega)); clear hz3 hw2 hw3 hk2 hk3))
        go_ret
        refine ⟨?_, hkr.trans HK3.out (fun _ _ h => h)⟩
        rw [HG.out, HS.out]
        simp
        omega
      · by_cases hb2 : 64 ≤ bk
        · have hb2' : ¬ bk < 64 := by omega
          go_wp2_with (first
            | ((with_reducible refine aw_alloc (t := 40) Hi0.out Hz0.out ?_); intro w2 hw2 hk2 hz2; have Hz2 := hide hz2; clear hz2 c0 c1)
            | ((with_reducible refine aw_store (M := [.int .i64 bk, .slice xa xn xc]) Try.agg40 rfl rfl rfl (by simp [Value.oneCell']) hw2 (by simp [Value.cells]) ?_); intro w3 hw3 hk3 hz3; rw [put_whole _ _ (by simp [Value.cells])] at hw3; have d0 : w3.cell? ⟨wr.heap.size, 0, none⟩ = some (.int .i64 bk) := hw3.cell 0; have d1 : w3.cell? ⟨wr.heap.size, 1, none⟩ = some (.slice xa xn xc) := hw3.cell 1; have HK3 := hide (hk2.trans hk3 (fun i hi h => by omega)); clear hz3 hw2 hw3 hk2 hk3))
          go_ret
          refine ⟨?_, hkr.trans HK3.out (fun _ _ h => h)⟩
          rw [HG.out, HS.out]
          simp
          omega
        · have hb2' : bk < 64 := by omega
          by_cases hb3 : xn = 64
          · subst hb3
            go_wp2_with (first
              | ((with_reducible refine aw_alloc (t := 40) Hi0.out Hz0.out ?_); intro w2 hw2 hk2 hz2; have Hz2 := hide hz2; clear hz2 c0 c1)
              | ((with_reducible refine aw_store (M := [.int .i64 bk, .slice xa 64 xc]) Try.agg40 rfl rfl rfl (by simp [Value.oneCell']) hw2 (by simp [Value.cells]) ?_); intro w3 hw3 hk3 hz3; rw [put_whole _ _ (by simp [Value.cells])] at hw3; have d0 : w3.cell? ⟨wr.heap.size, 0, none⟩ = some (.int .i64 bk) := hw3.cell 0; have d1 : w3.cell? ⟨wr.heap.size, 1, none⟩ = some (.slice xa 64 xc) := hw3.cell 1; have HK3 := hide (hk2.trans hk3 (fun i hi h => by omega)); clear hz3 hw2 hw3 hk2 hk3))
            go_roundw
            case rel => exact ⟨bk + 1, k + 1, by simp [IntKind.wrap_i64]; try omega, by simp, by omega, by omega, by omega, hide (by
              rw [HG.out, HS.out]
              have e : decide (q - 1 < bk ∧ 0 ≤ bk ∧ bk < 64 ∧ xB.length = 64) = true := by simp; have := HN.out; omega
              rw [e, Bool.true_and]
              congr 1
              omega), hkr.trans HK3.out (fun _ _ h => h)⟩
            case measure => simp [intOf]; omega
          · have hb3' : ¬ ((xn : Int) = 64) := by omega
            go_wp2_with (first
              | ((with_reducible refine aw_alloc (t := 40) Hi0.out Hz0.out ?_); intro w2 hw2 hk2 hz2; have Hz2 := hide hz2; clear hz2 c0 c1)
              | ((with_reducible refine aw_store (M := [.int .i64 bk, .slice xa xn xc]) Try.agg40 rfl rfl rfl (by simp [Value.oneCell']) hw2 (by simp [Value.cells]) ?_); intro w3 hw3 hk3 hz3; rw [put_whole _ _ (by simp [Value.cells])] at hw3; have d0 : w3.cell? ⟨wr.heap.size, 0, none⟩ = some (.int .i64 bk) := hw3.cell 0; have d1 : w3.cell? ⟨wr.heap.size, 1, none⟩ = some (.slice xa xn xc) := hw3.cell 1; have HK3 := hide (hk2.trans hk3 (fun i hi h => by omega)); clear hz3 hw2 hw3 hk2 hk3))
            go_ret
            refine ⟨?_, hkr.trans HK3.out (fun _ _ h => h)⟩
            rw [HG.out, HS.out]
            have e : ¬ xB.length = 64 := by have := HN.out; omega
            simp [e]
    · obtain rfl : l.length = k := by omega
      go_wp2
      go_ret
      refine ⟨?_, hkr⟩
      rw [HG.out]
      simp [goodFrom]
end Go.Proofs.Ytcdlgaknpmlfeaa
