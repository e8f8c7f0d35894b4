/-
  slices.EqualFunc over writes; Same, of package record.
-/
import Derived.Test.YtcdlgaknpmlfeaaRSame
namespace Go.Proofs.Ytcdlgaknpmlfeaa
open Go.RowKit Go.Shelf
set_option linter.unusedSimpArgs false
set_option linter.unusedVariables false

set_option maxRecDepth 100000 in
set_option maxHeartbeats 4000000 in
theorem eqf_at (w : World) (v u : Value) (a b : List Wv) (ha : WsAt w v a) (hb : WsAt w u b) (r : Bool) (hr : sameWs a b = r) : Calls Try.prog 36 #[v, u, .func (.func 37) #[] #[]] w fun e w' => e = .returned (.bool r) ∧ Kept (fun _ => False) w w' := by
  obtain ⟨ao, cap, rfl⟩ := ha.slice
  obtain ⟨bo, cap', rfl⟩ := hb.slice
  have hmax := ha.2.2
  obtain ⟨i0, hi0, hz0, hs0, hb0⟩ := info_parts Try.info40
  have Hi0 := hide hi0
  have Hz0 := hide hz0
  have HA := hide ha
  have HB := hide hb
  have HR := hide hr
  clear ha hb hr hi0 hz0 hs0 hb0
  by_cases hl : a.length = b.length
  · obtain ⟨n, hn⟩ : ∃ n, n = b.length := ⟨_, rfl⟩
    rw [hl] at hmax ⊢
    have Ha : Hid (a.length = n) := hide (by omega)
    have Hb : Hid (b.length = n) := hide hn.symm
    rw [← hn] at hmax ⊢
    have hnn : ((n : Int) != (n : Int)) = false := by simp
    clear hl hn
    go_enter Try.func36, Try.ntmps36
    go_wp2
    go_loopw [17] (fun i wr => ∃ (k : Nat), i = .int .i64 k ∧ k ≤ n ∧ Hid (sameWs (a.drop k) (b.drop k) = r) ∧ Kept (fun _ => False) w wr)
      (fun i _ => n - (intOf i).toNat)
    case atStart => exact ⟨0, rfl, Nat.zero_le _, hide (by simpa using HR.out), Kept.refl _ _⟩
    case round =>
      obtain ⟨k, rfl, hk, HG, hkr⟩ := hrel
      by_cases hlt : k < n
      · have hka : k < a.length := by rw [Ha.out]; exact hlt
        have hkb : k < b.length := by rw [Hb.out]; exact hlt
        obtain ⟨g, off, rfl, c0, c1, hsa, hna⟩ := (HA.out.kept hkr).get hka
        obtain ⟨g', off', rfl, d0, d1, hsb, hnb⟩ := (HB.out.kept hkr).get hkb
        have hst := sameWs_step hka hkb
        obtain ⟨x, hx⟩ : ∃ x, x = a[k] := ⟨_, rfl⟩
        obtain ⟨y, hy⟩ : ∃ y, y = b[k] := ⟨_, rfl⟩
        rw [← hx, ← hy] at hst
        rw [← hx] at c0 c1 hsa
        rw [← hy] at d0 d1 hsb
        obtain ⟨p, ⟨pa, pn, pc⟩, pB⟩ := x
        obtain ⟨q, ⟨qa, qn, qc⟩, qB⟩ := y
        simp only at c0 c1 hsa d0 d1 hsb
        have HSa := hide hsa
        have HSb := hide hsb
        have HGr := HG.out
        rw [hst] at HGr
        have HGR := hide HGr
        clear hsa hsb hna hnb hx hy hst HGr HG
        obtain ⟨sb, hsb⟩ : ∃ sb, sb = sameW ⟨p, ⟨pa, pn, pc⟩, pB⟩ ⟨q, ⟨qa, qn, qc⟩, qB⟩ := ⟨_, rfl⟩
        rw [← hsb] at HGR
        have HSB := hide hsb
        clear hsb
        cases sb with
        | true =>
          go_wp2_with (first
            | ((with_reducible refine aw_alloc (t := 40) (dst := some 8) Hi0.out Hz0.out ?_); intro w2 hw2 hk2 hz2; have Hz2 := hide hz2; clear hz2 c0 c1)
            | ((with_reducible refine aw_store (M := [.int .i64 p, .slice pa pn pc]) Try.agg40 rfl rfl rfl (by simp [Value.oneCell']) hw2 (by simp [Value.cells]) ?_); intro w3 hw3 hk3 hz3; rw [put_whole _ _ (by simp [Value.cells])] at hw3; have HK3 := hide (hk2.trans hk3 (fun i hi h => by omega)); have e0 : w3.cell? ⟨g', off' + k * 2, none⟩ = some (.int .i64 q) := (HK3.out.cells (M := [.int .i64 q]) (so := off' + k * 2) (fun j u hj => by cases j with | zero => simp at hj; rw [← hj]; exact d0 | succ j => simp at hj) (fun h => h)) 0 _ rfl; have e1 : w3.cell? ⟨g', off' + k * 2 + 1, none⟩ = some (.slice qa qn qc) := (HK3.out.cells (M := [.slice qa qn qc]) (so := off' + k * 2 + 1) (fun j u hj => by cases j with | zero => simp at hj; rw [← hj]; exact d1 | succ j => simp at hj) (fun h => h)) 0 _ rfl; have Hz3 := hide hz3; clear hz3 hw2 hk2 hk3 d0 d1)
            | ((with_reducible refine aw_alloc (t := 40) (dst := some 9) Hi0.out Hz0.out ?_); intro w4 hw4 hk4 hz4; have Hz4 := hide hz4; clear hz4 e0 e1)
            | ((with_reducible refine aw_store (M := [.int .i64 q, .slice qa qn qc]) Try.agg40 rfl rfl rfl (by simp [Value.oneCell']) hw4 (by simp [Value.cells]) ?_); intro w5 hw5 hk5 hz5; rw [put_whole _ _ (by simp [Value.cells])] at hw5; have HK5 := hide (hk4.trans hk5 (fun i hi h => by omega)); have d0 : w5.cell? ⟨wr.heap.size, 0, none⟩ = some (.int .i64 p) := (HK5.out.blk hw3 (fun h => h)).cell 0; have d1 : w5.cell? ⟨wr.heap.size, 1, none⟩ = some (.slice pa pn pc) := (HK5.out.blk hw3 (fun h => h)).cell 1; have f0 : w5.cell? ⟨w3.heap.size, 0, none⟩ = some (.int .i64 q) := hw5.cell 0; have f1 : w5.cell? ⟨w3.heap.size, 1, none⟩ = some (.slice qa qn qc) := hw5.cell 1; have HKK := hide (HK3.out.trans HK5.out (fun _ _ h => h)); clear hz5 hw3 hw4 hw5 hk4 hk5)
            | (go_at_call 37; refine (sameWrite_at _ p q ⟨pa, pn, pc⟩ ⟨qa, qn, qc⟩ pB qB (HSa.out.kept HKK.out) (HSb.out.kept HKK.out) true HSB.out.symm).mono ?_; rintro e w6 ⟨rfl, hk6⟩))
          go_roundw
          case rel => exact ⟨k + 1, by simp, by omega, hide (by have := HGR.out; rwa [Bool.true_and] at this), (hkr.trans HKK.out (fun _ _ h => h)).trans hk6 (fun _ _ h => h)⟩
          case measure => simp [intOf]; omega
        | false =>
          go_wp2_with (first
            | ((with_reducible refine aw_alloc (t := 40) (dst := some 8) Hi0.out Hz0.out ?_); intro w2 hw2 hk2 hz2; have Hz2 := hide hz2; clear hz2 c0 c1)
            | ((with_reducible refine aw_store (M := [.int .i64 p, .slice pa pn pc]) Try.agg40 rfl rfl rfl (by simp [Value.oneCell']) hw2 (by simp [Value.cells]) ?_); intro w3 hw3 hk3 hz3; rw [put_whole _ _ (by simp [Value.cells])] at hw3; have HK3 := hide (hk2.trans hk3 (fun i hi h => by omega)); have e0 : w3.cell? ⟨g', off' + k * 2, none⟩ = some (.int .i64 q) := (HK3.out.cells (M := [.int .i64 q]) (so := off' + k * 2) (fun j u hj => by cases j with | zero => simp at hj; rw [← hj]; exact d0 | succ j => simp at hj) (fun h => h)) 0 _ rfl; have e1 : w3.cell? ⟨g', off' + k * 2 + 1, none⟩ = some (.slice qa qn qc) := (HK3.out.cells (M := [.slice qa qn qc]) (so := off' + k * 2 + 1) (fun j u hj => by cases j with | zero => simp at hj; rw [← hj]; exact d1 | succ j => simp at hj) (fun h => h)) 0 _ rfl; have Hz3 := hide hz3; clear hz3 hw2 hk2 hk3 d0 d1)
            | ((with_reducible refine aw_alloc (t := 40) (dst := some 9) Hi0.out Hz0.out ?_); intro w4 hw4 hk4 hz4; have Hz4 := hide hz4; clear hz4 e0 e1)
            | ((with_reducible refine aw_store (M := [.int .i64 q, .slice qa qn qc]) Try.agg40 rfl rfl rfl (by simp [Value.oneCell']) hw4 (by simp [Value.cells]) ?_); intro w5 hw5 hk5 hz5; rw [put_whole _ _ (by simp [Value.cells])] at hw5; have HK5 := hide (hk4.trans hk5 (fun i hi h => by omega)); have d0 : w5.cell? ⟨wr.heap.size, 0, none⟩ = some (.int .i64 p) := (HK5.out.blk hw3 (fun h => h)).cell 0; have d1 : w5.cell? ⟨wr.heap.size, 1, none⟩ = some (.slice pa pn pc) := (HK5.out.blk hw3 (fun h => h)).cell 1; have f0 : w5.cell? ⟨w3.heap.size, 0, none⟩ = some (.int .i64 q) := hw5.cell 0; have f1 : w5.cell? ⟨w3.heap.size, 1, none⟩ = some (.slice qa qn qc) := hw5.cell 1; have HKK := hide (HK3.out.trans HK5.out (fun _ _ h => h)); clear hz5 hw3 hw4 hw5 hk4 hk5)
            | (go_at_call 37; refine (sameWrite_at _ p q ⟨pa, pn, pc⟩ ⟨qa, qn, qc⟩ pB qB (HSa.out.kept HKK.out) (HSb.out.kept HKK.out) false HSB.out.symm).mono ?_; rintro e w6 ⟨rfl, hk6⟩))
          go_ret
          refine ⟨?_, (hkr.trans HKK.out (fun _ _ h => h)).trans hk6 (fun _ _ h => h)⟩
          have := HGR.out
          rw [Bool.false_and] at this
          rw [← this]
          rfl
      · obtain rfl : n = k := by omega
        go_wp2
        go_ret
        refine ⟨?_, hkr⟩
        have := HG.out
        rw [List.drop_of_length_le (by rw [Ha.out]; omega), List.drop_of_length_le (by rw [Hb.out]; omega)] at this
        rw [← this]
        rfl
  · obtain rfl : r = false := by rw [← HR.out]; exact sameWs_len hl
    have hnn : (((a.length : Nat) : Int) != ((b.length : Nat) : Int)) = true := by simp; omega
    clear HA HB HR
    generalize a.length = n at *
    generalize b.length = m at *
    go_enter Try.func36, Try.ntmps36
    go_wp2
    go_ret
    exact ⟨rfl, Kept.refl _ _⟩
end Go.Proofs.Ytcdlgaknpmlfeaa
