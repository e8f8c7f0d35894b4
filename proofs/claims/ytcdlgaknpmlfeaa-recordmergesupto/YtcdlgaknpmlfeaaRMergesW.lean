/-
  The walk of RecordMerges: what any lists of writes are merged to.
-/
import Derived.Test.YtcdlgaknpmlfeaaRRefMergeW
namespace Go.Proofs.Ytcdlgaknpmlfeaa
open Go.RowKit Go.Shelf
set_option linter.unusedSimpArgs false
set_option linter.unusedVariables false

set_option maxRecDepth 100000 in
set_option maxHeartbeats 4000000 in
theorem merges_at (w : World) (v : Value) (ls : List (Sl × List Wv)) (hl : LsAt w v ls) (hn : (allV ls).length ≤ 1000000) (hB : ∀ y ∈ allV ls, y.B.length ≤ 90000000) :
    Calls Try.prog 4 #[v] w fun e w' => e = .returned (.bool true) ∧ Kept (fun _ => False) w w' := by
  obtain ⟨ao, cap, rfl⟩ := hl.slice
  have HL := hide hl
  have HBs := hide hB
  have HN := hide hn
  have hmax := hl.2.2
  clear hl hB hn
  obtain ⟨i40, hi40, hz40, hs40, hb40⟩ := info_parts Try.info40
  have Hi40 := hide hi40
  have Hz40 := hide hz40
  clear hi40 hz40 hs40 hb40
  go_enter Try.func4, Try.ntmps4
  go_wp2_with fail
  refine (first_law w).mono ?_
  rintro e w1 ⟨rfl, hk1⟩
  have HK1 := hide hk1
  clear hk1
  go_wp2
  go_loopw [3, 12] (fun nv iv W => ∃ (q : Int) (i : Nat), nv = .int .i64 q ∧ iv = .int .i64 i ∧ i ≤ ls.length ∧ Kept (fun _ => False) w1 W) (fun _ iv _ => ls.length - (intOf iv).toNat)
  case atStart => exact ⟨0, 0, rfl, rfl, Nat.zero_le _, Kept.refl _ _⟩
  case round =>
    obtain ⟨q, i, rfl, rfl, hi, hkr⟩ := hrel
    by_cases hlt : i < ls.length
    · obtain ⟨g, off, rfl, c0, hws⟩ := (HL.out.kept (HK1.out.trans hkr (fun _ _ h => h))).get hlt
      obtain ⟨x, hx⟩ : ∃ x, x = ls[i] := ⟨_, rfl⟩
      rw [← hx] at c0 hws
      obtain ⟨⟨xa, xn, xc⟩, l⟩ := x
      simp only at c0
      have hws' : WsAt wr (.slice xa xn xc) l := hws
      obtain rfl : xn = l.length := WsAt.len hws'
      have hlm := hws'.2.2
      have HW : Hid (WsAt wr (.slice xa l.length xc) l) := hide hws'
      clear hws hws' hx
      go_wp2
      rename World => w2
      go_loopw [3, 18] (fun nv kv W => ∃ (q : Int) (k : Nat), nv = .int .i64 q ∧ kv = .int .i64 k ∧ k ≤ l.length ∧ Kept (fun _ => False) w2 W) (fun _ kv _ => l.length - (intOf kv).toNat)
      case atStart => exact ⟨q, 0, rfl, rfl, Nat.zero_le _, Kept.refl _ _⟩
      case round =>
        clear c0
        obtain ⟨q, k, rfl, rfl, hk, hkk⟩ := hrel
        by_cases hlt2 : k < l.length
        · obtain ⟨g', off', rfl, d0, d1, hsrc, hnn⟩ := (HW.out.kept hkk).get hlt2
          obtain ⟨x, hx⟩ : ∃ x, x = l[k] := ⟨_, rfl⟩
          rw [← hx] at d0 d1
          clear hsrc hnn
          obtain ⟨bk, ⟨ya, yn, yc⟩, yB⟩ := x
          simp only at d0 d1
          clear hx
          go_wp2_with (first
            | ((with_reducible refine aw_alloc (t := 40) Hi40.out Hz40.out ?_); intro w3 hw3 hk3 hz3; have Yz3 := hide hz3; clear hz3 d0 d1)
            | ((with_reducible refine aw_store (M := [.int .i64 bk, .slice ya yn yc]) Try.agg40 rfl rfl rfl (by simp [Value.oneCell']) hw3 (by simp [Value.cells]) ?_); intro w4 hw4 hk4 hz4; rw [put_whole _ _ (by simp [Value.cells])] at hw4; have f1 : w4.cell? ⟨wr.heap.size, 1, none⟩ = some (.slice ya yn yc) := hw4.cell 1; have HK4 := hide (hkk.trans (hk3.trans hk4 (fun i hi h => by omega)) (fun _ _ h => h)); clear hz4 hw3 hw4 hk3 hk4)
            | fail)
          go_roundw
          case rel => exact ⟨_, k + 1, rfl, by simp, by omega, HK4.out⟩
          case measure => simp [intOf]; omega
        · obtain rfl : l.length = k := by omega
          have hk2 := hkr.trans hkk (fun _ _ h => h)
          clear hkk hkr
          go_wp2
          go_roundw
          case rel => exact ⟨_, i + 1, rfl, by simp, by omega, hk2⟩
          case measure => simp [intOf]; omega
    · obtain rfl : ls.length = i := by omega
      have HK := hide (HK1.out.trans hkr (fun _ _ h => h))
      clear hkr hi hlt HK1
      by_cases h3 : q > 3000
      · go_wp2
        go_ret
        exact ⟨rfl, HK.out⟩
      · go_wp2_with fail
        refine (merge_at wr _ ls (HL.out.kept HK.out) HN.out HBs.out).mono ?_
        rintro e w5 ⟨⟨ma, mn, mc⟩, mw, rfl, hmo, hmm, hml, hk5⟩
        have HMA : Hid (WsAt w5 (.slice ma mn mc) mw) := hide (hmo.at (by omega))
        have HMM := hide hmm
        have HK5 := hide (HK.out.trans hk5 (fun _ _ h => h))
        clear hmo hmm hml hk5 HK
        go_wp2_with fail
        refine (rmerge_at w5 _ ls (HL.out.kept HK5.out) HN.out).mono ?_
        rintro e w6 ⟨⟨na, nn, nc⟩, nw, rfl, hnw, hnm, hk6⟩
        have HS := hide (sws_at w6 _ _ mw nw (HMA.out.kept hk6) hnw true ((sameWs_iff _ _).2 (by rw [HMM.out, hnm])))
        have HK6 := hide (HK5.out.trans hk6 (fun _ _ h => h))
        clear hnw hnm hk6 HMA HMM HK5
        go_wp2_with fail
        refine HS.out.mono ?_
        rintro e w7 ⟨rfl, hk7⟩
        go_wp2
        go_ret
        exact ⟨rfl, HK6.out.trans hk7 (fun _ _ h => h)⟩
end Go.Proofs.Ytcdlgaknpmlfeaa
