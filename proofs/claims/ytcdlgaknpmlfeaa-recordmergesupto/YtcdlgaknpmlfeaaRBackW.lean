/-
  The walk of RecordBack: what is put is got; merging again changes nothing.
-/
import Derived.Test.YtcdlgaknpmlfeaaRFirst
import Derived.Test.YtcdlgaknpmlfeaaRRefW
namespace Go.Proofs.Ytcdlgaknpmlfeaa
open Go.RowKit Go.Shelf
set_option linter.unusedSimpArgs false
set_option linter.unusedVariables false

section
variable {ρ : Operand → Value} {w : World} {dst : Option Tmp} {ty : TypeId} {pos : String} {aft : Array Edge} {gd : Option (Nat × Bool)} {x y z : Operand}
theorem r_gtr3 {p q : Int} (hx : ρ x = .int .i64 p) (hy : ρ y = .int .i64 q) : (execOp ρ ⟨dst, .binOp .gtr 3 x y 3, ty, pos, aft, gd⟩).run Try.prog w = .ok (.value (.bool (decide (p > q)))) w := by
  go_simp
theorem r_geq3 {p q : Int} (hx : ρ x = .int .i64 p) (hy : ρ y = .int .i64 q) : (execOp ρ ⟨dst, .binOp .geq 3 x y 3, ty, pos, aft, gd⟩).run Try.prog w = .ok (.value (.bool (decide (p ≥ q)))) w := by
  go_simp
theorem r_subk {m : Nat} (hm : m ≤ 9223372036854775806) (hx : ρ x = .int .i64 ((m + 1 : Nat) : Int)) (hy : ρ y = .int .i64 1) : (execOp ρ ⟨dst, .binOp .sub 3 x y 3, ty, pos, aft, gd⟩).run Try.prog w = .ok (.value (.int .i64 (m : Int))) w := by
  go_simp
  rw [IntKind.wrap_i64] <;> omega
end
theorem putR_len {r : Rc} (h : rightR r = true) : (putR r).length ≤ 10000 := by
  unfold putR
  by_cases h2 : r.kind = 2
  · rw [if_pos h2]
    simp [numB_length]
  · rw [if_neg h2]
    by_cases h3 : r.kind = 3
    · rw [if_pos h3]
      unfold rightR at h
      rw [if_neg h2, if_neg (by omega), if_pos h3] at h
      simp only [Bool.and_eq_true] at h
      have hg := h.2
      have hl := goodFrom_len (by omega) (by omega) hg
      have he := encWs_length (l := r.ws) (fun w hw => (goodFrom_mem hg w hw).2.2.2)
      simp only [List.length_append, numB_length, he]
      omega
    · rw [if_neg h3]
      simp [numB_length]
theorem putR_le {r : Rc} (h : rightR r = true) : (putR r).length ≤ 70000000 := by have := putR_len h; omega
theorem rising_at {m : List Wv} (h : Rising (m.map Wv.wr)) (j : Nat) (hj : j + 1 < m.length) : m[j].blk < m[j + 1].blk := by
  have e : m.map Wv.wr = (m.take (j + 1)).map Wv.wr ++ (m.drop (j + 1)).map Wv.wr := by rw [← List.map_append, List.take_append_drop]
  rw [e] at h
  have h1 := (rising_append h).2.2 m[j].wr (by
    refine List.mem_map.2 ⟨m[j], ?_, rfl⟩
    rw [List.take_succ_eq_append_getElem (by omega)]
    exact List.mem_append_right _ (List.mem_singleton.2 rfl)) m[j + 1].wr (by
    refine List.mem_map.2 ⟨m[j + 1], ?_, rfl⟩
    rw [List.drop_eq_getElem_cons hj]
    exact List.mem_cons_self)
  exact h1
theorem merged_mem {l : List Wv} {mw : List Wv} (h : mw.map Wv.wr = mergeW (l.map Wv.wr)) (y : Wv) (hy : y ∈ mw) : ∃ x ∈ l, x.B = y.B := by
  have h1 : y.wr ∈ mergeW (l.map Wv.wr) := by rw [← h]; exact List.mem_map.2 ⟨y, hy, rfl⟩
  obtain ⟨x, hx, e⟩ := List.mem_map.1 (lastW_mem (mem_merge h1)).1
  refine ⟨x, hx, ?_⟩
  simp only [Wv.wr, Wr.mk.injEq] at e
  exact e.2
theorem merged_le {l : List Wv} {mw : List Wv} (h : mw.map Wv.wr = mergeW (l.map Wv.wr)) {n : Nat} (hl : ∀ y ∈ l, y.B.length ≤ n) (y : Wv) (hy : y ∈ mw) : y.B.length ≤ n := by
  obtain ⟨x, hx, e⟩ := merged_mem h y hy
  rw [← e]
  exact hl x hx

set_option maxRecDepth 100000 in
set_option maxHeartbeats 8000000 in
theorem back_at (w : World) (x : Rv) (h : RcAt w x) (v : Value) (ls : List (Sl × List Wv)) (hl : LsAt w v ls) (hn : (allV ls).length ≤ 1000000) (hB : ∀ y ∈ allV ls, y.B.length ≤ 90000000) :
    Calls Try.prog 5 #[x.agg, v] w fun e w' => e = .returned (.bool true) ∧ Kept (fun _ => False) w w' := by
  obtain ⟨ao, cap, rfl⟩ := hl.slice
  have HL := hide hl
  have HBs := hide hB
  have hmax := hl.2.2
  obtain ⟨kd, tl, nm, ⟨xa, xn, xc⟩, xl⟩ := x
  simp only [Rv.agg] at h ⊢
  have HR : Hid (RcAt w ⟨kd, tl, nm, ⟨xa, xn, xc⟩, xl⟩) := hide h
  clear h hl hB
  obtain ⟨i24, hi24, hz24, hs24, hb24⟩ := info_parts Try.info24
  obtain ⟨i22, hi22, hz22, hs22, hb22⟩ := info_parts Try.info22
  have Hi24 := hide hi24
  have Hz24 := hide hz24
  have Hi22 := hide hi22
  have Hz22 := hide hz22
  have Hs22 := hide hs22
  clear hi24 hz24 hs24 hb24 hi22 hz22 hs22 hb22
  go_enter Try.func5, Try.ntmps5
  go_wp2_with (first
    | ((with_reducible refine aw_box (t := 24) (v := rAgg kd tl nm ⟨xa, xn, xc⟩) rfl ?_); intro w1 hb1 hk1 hz1; have Yz1 := hide hz1; clear hz1)
    | fail)
  obtain ⟨b0, hb0⟩ : ∃ b, b = w.heap.size := ⟨_, rfl⟩
  rw [← hb0] at hb1 ⊢
  have HB1 : Hid (Blk w1 b0 [.int .i64 kd, .int .i64 tl, .int .i64 nm, .slice xa xn xc] 24) := hide hb1
  have HK1 := hide hk1
  clear hb1 hk1 Yz1 hb0
  refine (first_law w1).mono ?_
  rintro e w2 ⟨rfl, hk2⟩
  have HB2 := hide (hk2.blk HB1.out (fun h => h))
  have HK2 := hide (HK1.out.trans hk2 (fun _ _ h => h))
  clear hk2 HB1 HK1
  go_wp2_with ((with_reducible refine aw_load (t := 24) (M := [.int .i64 kd, .int .i64 tl, .int .i64 nm, .slice xa xn xc]) Try.agg24 rfl HB2.out (by simp) (by simp) ?_))
  refine (great_at w2 ⟨kd, tl, nm, ⟨xa, xn, xc⟩, xl⟩ (HR.out.kept HK2.out)).mono ?_
  rintro e w3 ⟨⟨b, rfl⟩, hk3⟩
  have HB3 := hide (hk3.blk HB2.out (fun h => h))
  have HK3 := hide (HK2.out.trans hk3 (fun _ _ h => h))
  clear hk3 HB2 HK2
  cases b with
  | true =>
    go_wp2
    go_ret
    exact ⟨rfl, HK3.out⟩
  | false =>
    by_cases h20 : 20 < ls.length
    · go_wp2
      go_ret
      exact ⟨rfl, HK3.out⟩
    · go_wp2
      go_loopw [22] (fun iv wr => ∃ k : Nat, iv = .int .i64 k ∧ k ≤ ls.length ∧ Kept (fun _ => False) w3 wr) (fun iv _ => ls.length - (intOf iv).toNat)
      case atStart => exact ⟨0, rfl, Nat.zero_le _, Kept.refl _ _⟩
      case round =>
        obtain ⟨k, rfl, hk, hkr⟩ := hrel
        by_cases hlt : k < ls.length
        · obtain ⟨g, off, rfl, c0, hws⟩ := (HL.out.kept (HK3.out.trans hkr (fun _ _ h => h))).get hlt
          obtain ⟨y, hy⟩ : ∃ y, y = ls[k] := ⟨_, rfl⟩
          rw [← hy] at c0 hws
          obtain ⟨⟨ya, yn, yc⟩, yl⟩ := y
          simp only at c0
          have HW : Hid (RcAt wr ⟨0, 0, 0, ⟨ya, yn, yc⟩, yl⟩) := hide hws
          clear hws hy
          go_wp2_with fail
          refine (great_at wr ⟨0, 0, 0, ⟨ya, yn, yc⟩, yl⟩ HW.out).mono ?_
          rintro e w4 ⟨⟨b, rfl⟩, hk4⟩
          have hkr4 := hkr.trans hk4 (fun _ _ h => h)
          clear c0 HW
          cases b with
          | true =>
            go_wp2
            go_ret
            exact ⟨rfl, HK3.out.trans hkr4 (fun _ _ h => h)⟩
          | false =>
            go_wp2
            go_roundw
            case rel => exact ⟨k + 1, by simp, by omega, hkr4⟩
            case measure => simp [intOf]; omega
        · obtain rfl : ls.length = k := by omega
          have HB4 := hide (hkr.blk HB3.out (fun h => h))
          have HK4 := hide (HK3.out.trans hkr (fun _ _ h => h))
          clear hkr HB3 HK3 hlt hk
          go_wp2_with ((with_reducible refine aw_load (t := 24) (M := [.int .i64 kd, .int .i64 tl, .int .i64 nm, .slice xa xn xc]) Try.agg24 rfl HB4.out (by simp) (by simp) ?_))
          refine (right_at wr ⟨kd, tl, nm, ⟨xa, xn, xc⟩, xl⟩ (HR.out.kept HK4.out)).mono ?_
          rintro e w5 ⟨rfl, hk5⟩
          have HB5 := hide (hk5.blk HB4.out (fun h => h))
          have HK5 := hide (HK4.out.trans hk5 (fun _ _ h => h))
          clear hk5 HB4 HK4
          obtain ⟨rb, hrb⟩ : ∃ b, b = rightR (Rv.rc ⟨kd, tl, nm, ⟨xa, xn, xc⟩, xl⟩) := ⟨_, rfl⟩
          rw [← hrb]
          have HRB := hide hrb
          clear hrb
          cases rb with
          | false =>
            go_wp2_with fail
            refine (merge_at w5 _ ls (HL.out.kept HK5.out) hn HBs.out).mono ?_
            rintro e wm ⟨⟨ma, mn, mc⟩, mw, rfl, hmo, hmm, hml, hkm⟩
            have hma : WsAt wm (.slice ma mn mc) mw := hmo.at (by omega)
            obtain rfl : mn = mw.length := WsAt.len hma
            have HMA := hide hma
            have HMM := hide hmm
            have HKM := hide (HK5.out.trans hkm (fun _ _ h => h))
            have HRise : Hid (Rising (mw.map Wv.wr)) := hide (by rw [hmm]; exact merge_rising _)
            clear hmo hmm hkm hma
            go_wp2
            go_loopw [50] (fun iv wr => ∃ k : Nat, iv = .int .i64 k ∧ k ≤ mw.length ∧ Kept (fun _ => False) wm wr) (fun iv _ => mw.length - (intOf iv).toNat)
            case atStart => exact ⟨0, rfl, Nat.zero_le _, Kept.refl _ _⟩
            case round =>
              obtain ⟨k, rfl, hk, hkr⟩ := hrel
              by_cases hlt : k < mw.length
              · cases k with
                | zero =>
                  have HG0 : Hid (decide (((0 : Nat) : Int) > 0) = false) := hide (by decide)
                  go_wp2
                  refine hold_frame (p := fun fr => Code.wp Try.prog _ _ fr _) ?_
                  intro fr hfr
                  have e9 : fr.eval (.tmp 9) = .slice ma mw.length mc := by rw [hfr.out]; rfl
                  have e10 : fr.eval (.tmp 10) = .int .i64 ((0 : Nat) : Int) := by rw [hfr.out]; rfl
                  have hts : fr.tmps.size = 75 := by rw [hfr.out]; rfl
                  refine region_S0 99 Try.mixed ?_
                  intro w0 hkw hheap
                  have hS0 : Kept (fun _ => False) w0 w0 := Kept.refl (fun _ => False) w0
                  refine ⟨Kept (fun _ => False) w0, ?_⟩
                  refine tkS 0 53 (v := .int .i64 ((0 : Nat) : Int)) hS0 rfl rfl (by kernel_rfl) (by kernel_rfl) (by kernel_rfl) (by kernel_rfl) (wanted_none rfl) (fun _ _ _ h => h) (fun U hU => r_move (by simp [eval_put_ne, eval_put_eq, size_put, hts, e10])) ?_
                  refine tkS 1 54 (v := .bool false) hS0 rfl rfl (by kernel_rfl) (by kernel_rfl) (by kernel_rfl) (by kernel_rfl) (wanted_none rfl) (fun _ _ _ h => h) (fun U hU => (r_gtr3 (p := ((0 : Nat) : Int)) (q := 0) (by simp [eval_put_ne, eval_put_eq, size_put, hts]) rfl).trans (by rw [HG0.out])) ?_
                  refine tkS 2 55 (v := .bool false) hS0 rfl rfl (by kernel_rfl) (by kernel_rfl) (by kernel_rfl) (by kernel_rfl) (wanted_none rfl) (fun _ _ _ h => h) (fun U hU => r_move (by simp [eval_put_ne, eval_put_eq, size_put, hts])) ?_
                  refine tkNS 3 56 hS0 rfl rfl (by kernel_rfl) (by kernel_rfl) (by kernel_rfl) (by kernel_rfl) (wanted_not (j := 2) (d := 55) (bb := true) rfl rfl rfl (by simp [eval_put_ne, eval_put_eq, size_put, hts]) (by simp [size_put, hts])) (fun _ _ _ h => h) ?_
                  refine tkNS 4 57 hS0 rfl rfl (by kernel_rfl) (by kernel_rfl) (by kernel_rfl) (by kernel_rfl) (wanted_not (j := 2) (d := 55) (bb := true) rfl rfl rfl (by simp [eval_put_ne, eval_put_eq, size_put, hts]) (by simp [size_put, hts])) (fun _ _ _ h => h) ?_
                  refine tkNS 5 58 hS0 rfl rfl (by kernel_rfl) (by kernel_rfl) (by kernel_rfl) (by kernel_rfl) (wanted_not (j := 2) (d := 55) (bb := true) rfl rfl rfl (by simp [eval_put_ne, eval_put_eq, size_put, hts]) (by simp [size_put, hts])) (fun _ _ _ h => h) ?_
                  refine tkNS 6 59 hS0 rfl rfl (by kernel_rfl) (by kernel_rfl) (by kernel_rfl) (by kernel_rfl) (wanted_not (j := 2) (d := 55) (bb := true) rfl rfl rfl (by simp [eval_put_ne, eval_put_eq, size_put, hts]) (by simp [size_put, hts])) (fun _ _ _ h => h) ?_
                  refine tkNS 7 60 hS0 rfl rfl (by kernel_rfl) (by kernel_rfl) (by kernel_rfl) (by kernel_rfl) (wanted_not (j := 2) (d := 55) (bb := true) rfl rfl rfl (by simp [eval_put_ne, eval_put_eq, size_put, hts]) (by simp [size_put, hts])) (fun _ _ _ h => h) ?_
                  refine tkNS 8 61 hS0 rfl rfl (by kernel_rfl) (by kernel_rfl) (by kernel_rfl) (by kernel_rfl) (wanted_not (j := 2) (d := 55) (bb := true) rfl rfl rfl (by simp [eval_put_ne, eval_put_eq, size_put, hts]) (by simp [size_put, hts])) (fun _ _ _ h => h) ?_
                  refine tkNS 9 62 hS0 rfl rfl (by kernel_rfl) (by kernel_rfl) (by kernel_rfl) (by kernel_rfl) (wanted_not (j := 2) (d := 55) (bb := true) rfl rfl rfl (by simp [eval_put_ne, eval_put_eq, size_put, hts]) (by simp [size_put, hts])) (fun _ _ _ h => h) ?_
                  refine tkNS 10 63 hS0 rfl rfl (by kernel_rfl) (by kernel_rfl) (by kernel_rfl) (by kernel_rfl) (wanted_not (j := 2) (d := 55) (bb := true) rfl rfl rfl (by simp [eval_put_ne, eval_put_eq, size_put, hts]) (by simp [size_put, hts])) (fun _ _ _ h => h) ?_
                  refine tkNS 11 64 hS0 rfl rfl (by kernel_rfl) (by kernel_rfl) (by kernel_rfl) (by kernel_rfl) (wanted_not (j := 2) (d := 55) (bb := true) rfl rfl rfl (by simp [eval_put_ne, eval_put_eq, size_put, hts]) (by simp [size_put, hts])) (fun _ _ _ h => h) ?_
                  refine tkNS 12 65 hS0 rfl rfl (by kernel_rfl) (by kernel_rfl) (by kernel_rfl) (by kernel_rfl) (wanted_not (j := 2) (d := 55) (bb := true) rfl rfl rfl (by simp [eval_put_ne, eval_put_eq, size_put, hts]) (by simp [size_put, hts])) (fun _ _ _ h => h) ?_
                  refine tkNS 13 66 hS0 rfl rfl (by kernel_rfl) (by kernel_rfl) (by kernel_rfl) (by kernel_rfl) (wanted_not (j := 2) (d := 55) (bb := true) rfl rfl rfl (by simp [eval_put_ne, eval_put_eq, size_put, hts]) (by simp [size_put, hts])) (fun _ _ _ h => h) ?_
                  refine tkNS 14 67 hS0 rfl rfl (by kernel_rfl) (by kernel_rfl) (by kernel_rfl) (by kernel_rfl) (wanted_not (j := 2) (d := 55) (bb := true) rfl rfl rfl (by simp [eval_put_ne, eval_put_eq, size_put, hts]) (by simp [size_put, hts])) (fun _ _ _ h => h) ?_
                  refine tkS 15 68 (v := .bool false) hS0 rfl rfl (by kernel_rfl) (by kernel_rfl) (by kernel_rfl) (by kernel_rfl) (wanted_none rfl) (fun _ _ _ h => h) (fun U hU => r_pickF (by simp [eval_put_ne, eval_put_eq, size_put, hts]) rfl) ?_
                  refine doneS (by kernel_rfl) ?_
                  have hkr2 := hkr.trans hkw (fun _ _ h => h)
                  clear hS0 hkw hheap
                  rw [hfr.out]
                  clear hfr e9 e10 hts
                  simp only [put_lit, put_none, List.set_cons_succ, List.set_cons_zero]
                  go_wp2
                  go_roundw
                  case rel => exact ⟨0 + 1, by simp, by omega, hkr2⟩
                  case measure => simp [intOf]; omega
                | succ j =>
                  have HG0 : Hid (decide (((j + 1 : Nat) : Int) > 0) = true) := hide (decide_eq_true (by omega))
                  obtain ⟨mg, moff, rfl, a0, a1, _, _⟩ := (HMA.out.kept hkr).get (k := j) (by omega)
                  obtain ⟨mg', moff', e, b0, b1, _, _⟩ := (HMA.out.kept hkr).get (k := j + 1) (by omega)
                  cases e
                  have HCa : Hid (Cells wr mg (moff + j * 2) [.int .i64 mw[j].blk]) := hide (by
                    intro i u hj
                    match i with
                    | 0 => simp at hj; rw [← hj]; exact a0
                    | i + 1 => simp at hj)
                  have HCb : Hid (Cells wr mg (moff + (j + 1) * 2) [.int .i64 mw[j + 1].blk]) := hide (by
                    intro i u hj
                    match i with
                    | 0 => simp at hj; rw [← hj]; exact b0
                    | i + 1 => simp at hj)
                  have hpq := rising_at HRise.out j (by omega)
                  obtain ⟨p, hp⟩ : ∃ p, p = mw[j].blk := ⟨_, rfl⟩
                  obtain ⟨q, hq⟩ : ∃ q, q = mw[j + 1].blk := ⟨_, rfl⟩
                  rw [← hp, ← hq] at hpq
                  rw [← hp] at HCa
                  rw [← hq] at HCb
                  have HPQ : Hid (decide (p ≥ q) = false) := hide (by simp; omega)
                  clear a0 a1 b0 b1 hp hq hpq
                  go_wp2
                  refine hold_frame (p := fun fr => Code.wp Try.prog _ _ fr _) ?_
                  intro fr hfr
                  have e9 : fr.eval (.tmp 9) = .slice (some ⟨mg, moff, none⟩) mw.length mc := by rw [hfr.out]; rfl
                  have e10 : fr.eval (.tmp 10) = .int .i64 ((j + 1 : Nat) : Int) := by rw [hfr.out]; rfl
                  have hts : fr.tmps.size = 75 := by rw [hfr.out]; rfl
                  refine region_S0 99 Try.mixed ?_
                  intro w0 hkw hheap
                  have cAw := hkw.cells HCa.out (fun h => h)
                  have cBw := hkw.cells HCb.out (fun h => h)
                  have hS0 : Kept (fun _ => False) w0 w0 := Kept.refl (fun _ => False) w0
                  refine ⟨Kept (fun _ => False) w0, ?_⟩
                  refine tkS 0 53 (v := .int .i64 ((j + 1 : Nat) : Int)) hS0 rfl rfl (by kernel_rfl) (by kernel_rfl) (by kernel_rfl) (by kernel_rfl) (wanted_none rfl) (fun _ _ _ h => h) (fun U hU => r_move (by simp [eval_put_ne, eval_put_eq, size_put, hts, e10])) ?_
                  refine tkS 1 54 (v := .bool true) hS0 rfl rfl (by kernel_rfl) (by kernel_rfl) (by kernel_rfl) (by kernel_rfl) (wanted_none rfl) (fun _ _ _ h => h) (fun U hU => (r_gtr3 (p := ((j + 1 : Nat) : Int)) (q := 0) (by simp [eval_put_ne, eval_put_eq, size_put, hts]) rfl).trans (by rw [HG0.out])) ?_
                  refine tkS 2 55 (v := .bool true) hS0 rfl rfl (by kernel_rfl) (by kernel_rfl) (by kernel_rfl) (by kernel_rfl) (wanted_none rfl) (fun _ _ _ h => h) (fun U hU => r_move (by simp [eval_put_ne, eval_put_eq, size_put, hts])) ?_
                  refine tkS 3 56 (v := .slice (some ⟨mg, moff, none⟩) mw.length mc) hS0 rfl rfl (by kernel_rfl) (by kernel_rfl) (by kernel_rfl) (by kernel_rfl) (wanted_some (j := 2) (d := 55) (bb := true) rfl rfl rfl (by simp [eval_put_ne, eval_put_eq, size_put, hts]) (by simp [size_put, hts])) (fun _ _ _ h => h) (fun U hU => r_move (by simp [eval_put_ne, eval_put_eq, size_put, hts, e9])) ?_
                  refine tkS 4 57 (v := .int .i64 ((j + 1 : Nat) : Int)) hS0 rfl rfl (by kernel_rfl) (by kernel_rfl) (by kernel_rfl) (by kernel_rfl) (wanted_some (j := 2) (d := 55) (bb := true) rfl rfl rfl (by simp [eval_put_ne, eval_put_eq, size_put, hts]) (by simp [size_put, hts])) (fun _ _ _ h => h) (fun U hU => r_move (by simp [eval_put_ne, eval_put_eq, size_put, hts, e10])) ?_
                  refine tkS 5 58 (v := .int .i64 ((j : Nat) : Int)) hS0 rfl rfl (by kernel_rfl) (by kernel_rfl) (by kernel_rfl) (by kernel_rfl) (wanted_some (j := 2) (d := 55) (bb := true) rfl rfl rfl (by simp [eval_put_ne, eval_put_eq, size_put, hts]) (by simp [size_put, hts])) (fun _ _ _ h => h) (fun U hU => r_subk (m := j) (by omega) (by simp [eval_put_ne, eval_put_eq, size_put, hts]) rfl) ?_
                  refine tkS 6 59 (v := .pointer (some ⟨mg, moff + j * 2, none⟩)) hS0 rfl rfl (by kernel_rfl) (by kernel_rfl) (by kernel_rfl) (by kernel_rfl) (wanted_some (j := 2) (d := 55) (bb := true) rfl rfl rfl (by simp [eval_put_ne, eval_put_eq, size_put, hts]) (by simp [size_put, hts])) (fun _ _ _ h => h) (fun U hU => r_ix22 j (b := mg) (off := moff) (len := mw.length) (cap := mc) (kk := .i64) (by simp [eval_put_ne, eval_put_eq, size_put, hts]) (by simp [eval_put_ne, eval_put_eq, size_put, hts]) (by omega)) ?_
                  refine tkS 7 60 (v := .pointer (some ⟨mg, moff + j * 2, none⟩)) hS0 rfl rfl (by kernel_rfl) (by kernel_rfl) (by kernel_rfl) (by kernel_rfl) (wanted_some (j := 2) (d := 55) (bb := true) rfl rfl rfl (by simp [eval_put_ne, eval_put_eq, size_put, hts]) (by simp [size_put, hts])) (fun _ _ _ h => h) (fun U hU => r_f40_0 (by simp [eval_put_ne, eval_put_eq, size_put, hts])) ?_
                  refine tkS 8 61 (v := .int .i64 p) hS0 rfl rfl (by kernel_rfl) (by kernel_rfl) (by kernel_rfl) (by kernel_rfl) (wanted_some (j := 2) (d := 55) (bb := true) rfl rfl rfl (by simp [eval_put_ne, eval_put_eq, size_put, hts]) (by simp [size_put, hts])) (fun _ _ _ h => h) (fun U hU => r_ld3 (b := mg) (o := moff + j * 2) (by simp [eval_put_ne, eval_put_eq, size_put, hts]) (by have := (hU.cells cAw (fun h => h)) 0 _ rfl; simpa using this)) ?_
                  refine tkS 9 62 (v := .slice (some ⟨mg, moff, none⟩) mw.length mc) hS0 rfl rfl (by kernel_rfl) (by kernel_rfl) (by kernel_rfl) (by kernel_rfl) (wanted_some (j := 2) (d := 55) (bb := true) rfl rfl rfl (by simp [eval_put_ne, eval_put_eq, size_put, hts]) (by simp [size_put, hts])) (fun _ _ _ h => h) (fun U hU => r_move (by simp [eval_put_ne, eval_put_eq, size_put, hts, e9])) ?_
                  refine tkS 10 63 (v := .int .i64 ((j + 1 : Nat) : Int)) hS0 rfl rfl (by kernel_rfl) (by kernel_rfl) (by kernel_rfl) (by kernel_rfl) (wanted_some (j := 2) (d := 55) (bb := true) rfl rfl rfl (by simp [eval_put_ne, eval_put_eq, size_put, hts]) (by simp [size_put, hts])) (fun _ _ _ h => h) (fun U hU => r_move (by simp [eval_put_ne, eval_put_eq, size_put, hts, e10])) ?_
                  refine tkS 11 64 (v := .pointer (some ⟨mg, moff + (j + 1) * 2, none⟩)) hS0 rfl rfl (by kernel_rfl) (by kernel_rfl) (by kernel_rfl) (by kernel_rfl) (wanted_some (j := 2) (d := 55) (bb := true) rfl rfl rfl (by simp [eval_put_ne, eval_put_eq, size_put, hts]) (by simp [size_put, hts])) (fun _ _ _ h => h) (fun U hU => r_ix22 (j + 1) (b := mg) (off := moff) (len := mw.length) (cap := mc) (kk := .i64) (by simp [eval_put_ne, eval_put_eq, size_put, hts]) (by simp [eval_put_ne, eval_put_eq, size_put, hts]) (by omega)) ?_
                  refine tkS 12 65 (v := .pointer (some ⟨mg, moff + (j + 1) * 2, none⟩)) hS0 rfl rfl (by kernel_rfl) (by kernel_rfl) (by kernel_rfl) (by kernel_rfl) (wanted_some (j := 2) (d := 55) (bb := true) rfl rfl rfl (by simp [eval_put_ne, eval_put_eq, size_put, hts]) (by simp [size_put, hts])) (fun _ _ _ h => h) (fun U hU => r_f40_0 (by simp [eval_put_ne, eval_put_eq, size_put, hts])) ?_
                  refine tkS 13 66 (v := .int .i64 q) hS0 rfl rfl (by kernel_rfl) (by kernel_rfl) (by kernel_rfl) (by kernel_rfl) (wanted_some (j := 2) (d := 55) (bb := true) rfl rfl rfl (by simp [eval_put_ne, eval_put_eq, size_put, hts]) (by simp [size_put, hts])) (fun _ _ _ h => h) (fun U hU => r_ld3 (b := mg) (o := moff + (j + 1) * 2) (by simp [eval_put_ne, eval_put_eq, size_put, hts]) (by have := (hU.cells cBw (fun h => h)) 0 _ rfl; simpa using this)) ?_
                  refine tkS 14 67 (v := .bool false) hS0 rfl rfl (by kernel_rfl) (by kernel_rfl) (by kernel_rfl) (by kernel_rfl) (wanted_some (j := 2) (d := 55) (bb := true) rfl rfl rfl (by simp [eval_put_ne, eval_put_eq, size_put, hts]) (by simp [size_put, hts])) (fun _ _ _ h => h) (fun U hU => (r_geq3 (p := p) (q := q) (by simp [eval_put_ne, eval_put_eq, size_put, hts]) (by simp [eval_put_ne, eval_put_eq, size_put, hts])).trans (by rw [HPQ.out])) ?_
                  refine tkS 15 68 (v := .bool false) hS0 rfl rfl (by kernel_rfl) (by kernel_rfl) (by kernel_rfl) (by kernel_rfl) (wanted_none rfl) (fun _ _ _ h => h) (fun U hU => r_pick (by simp [eval_put_ne, eval_put_eq, size_put, hts]) (by simp [eval_put_ne, eval_put_eq, size_put, hts])) ?_
                  refine doneS (by kernel_rfl) ?_
                  have hkr2 := hkr.trans hkw (fun _ _ h => h)
                  clear cAw cBw
                  clear hS0 hkw hheap
                  rw [hfr.out]
                  clear hfr e9 e10 hts
                  simp only [put_lit, put_none, List.set_cons_succ, List.set_cons_zero]
                  go_wp2
                  go_roundw
                  case rel => exact ⟨j + 1 + 1, by simp, by omega, hkr2⟩
                  case measure => simp [intOf]; omega
              · obtain rfl : mw.length = k := by omega
                clear hlt hk
                go_wp2_with ((with_reducible refine stop_bs 38 ?_))
                refine hide ?_
                refine wpList_run rfl (run_bs1 (M := [.slice ma mw.length mc]) Try.underlying38 Hi22.out Hz22.out Hs22.out rfl (by simp) (by simp [Value.cells]) rfl) ?_
                have hbn := Blk.new wr [.slice ma mw.length mc] 22
                have hkn := Kept.alloc (fun _ => False) wr (.cells [.slice ma mw.length mc].toArray 22)
                obtain ⟨gn, hgn⟩ : ∃ b, b = wr.heap.size := ⟨_, rfl⟩
                rw [← hgn] at hbn ⊢
                generalize wr.alloc (.cells [.slice ma mw.length mc].toArray 22) = wn at hbn hkn ⊢
                have hkrn := hkr.trans hkn (fun _ _ h => h)
                have hls : LsAt wn (.slice (some ⟨gn, 0, none⟩) 1 1) [(⟨ma, mw.length, mc⟩, mw)] := by
                  refine ⟨⟨_, _, rfl, Nat.le_refl _, fun _ => ⟨gn, 0, rfl, fun j v hj => by rw [Nat.zero_add, hbn.cell]; exact hj⟩, fun h => by cases h⟩, fun x hx => ?_, by simp⟩
                  obtain rfl := List.mem_singleton.1 hx
                  exact HMA.out.kept hkrn
                have hav : allV [((⟨ma, mw.length, mc⟩ : Sl), mw)] = mw := by simp [allV]
                have HM2 := hide (merge_at wn _ _ hls (by rw [hav]; exact hml) (fun y hy => by
                  rw [hav] at hy
                  exact merged_le HMM.out HBs.out y hy))
                rw [hav] at HM2
                have HMAn := hide (HMA.out.kept hkrn)
                have HKn := hide (HKM.out.trans hkrn (fun _ _ h => h))
                clear hbn hkn hkrn hls hav hgn hkr
                go_wp2_with fail
                refine HM2.out.mono ?_
                rintro e wo ⟨⟨na, nn, nc⟩, nw, rfl, hno, hnm, hnl, hko⟩
                have hna : WsAt wo (.slice na nn nc) nw := hno.at (by omega)
                have hsw : sameWs nw mw = true := (sameWs_iff _ _).2 (by rw [hnm, merge_self HRise.out])
                have HS := hide (sws_at wo _ _ nw mw hna (HMAn.out.kept hko) true hsw)
                have HKo := hide (HKn.out.trans hko (fun _ _ h => h))
                clear hno hnm hnl hko hna hsw HM2 HMAn HKn
                go_wp2_with fail
                refine HS.out.mono ?_
                rintro e wq ⟨rfl, hkq⟩
                go_wp2
                go_ret
                exact ⟨rfl, HKo.out.trans hkq (fun _ _ h => h)⟩
          | true =>
            go_wp2_with ((with_reducible refine aw_load (t := 24) (M := [.int .i64 kd, .int .i64 tl, .int .i64 nm, .slice xa xn xc]) Try.agg24 rfl HB5.out (by simp) (by simp) ?_))
            refine (put_at w5 ⟨kd, tl, nm, ⟨xa, xn, xc⟩, xl⟩ (HR.out.kept HK5.out)).mono ?_
            rintro e w6 ⟨⟨ta, tn, tc⟩, rfl, hs6, hk6⟩
            have hp6 : putRN (Rv.rc ⟨kd, tl, nm, ⟨xa, xn, xc⟩, xl⟩) = putR (Rv.rc ⟨kd, tl, nm, ⟨xa, xn, xc⟩, xl⟩) := by unfold putRN; rw [← HRB.out]; rfl
            have hs6' : Src w6 (.slice ta tn tc) (putR (Rv.rc ⟨kd, tl, nm, ⟨xa, xn, xc⟩, xl⟩)) := by rw [← hp6]; exact hs6
            have HG6 := hide (get_at w6 _ _ hs6' (putR_le HRB.out.symm))
            have HB6 := hide (hk6.blk HB5.out (fun h => h))
            have HK6 := hide (HK5.out.trans hk6 (fun _ _ h => h))
            clear hs6 hs6' hp6 hk6 HB5 HK5
            go_wp2_with fail
            refine HG6.out.mono ?_
            rintro e w7 ⟨y, ec, rfl, ⟨hr, hg⟩, hk7⟩
            have hye : y.rc = Rv.rc ⟨kd, tl, nm, ⟨xa, xn, xc⟩, xl⟩ ∧ ec = 0 := by
              rcases hg with ⟨h1, h2⟩ | ⟨h1, _⟩
              · rw [getR_put _ HRB.out.symm] at h1; exact ⟨(Option.some.inj h1).symm, h2⟩
              · rw [getR_put _ HRB.out.symm] at h1; cases h1
            obtain ⟨hyr, rfl⟩ := hye
            have HSY : Hid (sameR y ⟨kd, tl, nm, ⟨xa, xn, xc⟩, xl⟩ = true) := hide ((sameR_iff _ _).2 hyr)
            obtain ⟨yk, yt, ym, ⟨ya, yn, yc⟩, yl⟩ := y
            have HY7 := hide hr
            have HB7 := hide (hk7.blk HB6.out (fun h => h))
            have HK7 := hide (HK6.out.trans hk7 (fun _ _ h => h))
            clear hr hg hk7 HB6 HK6 HG6 hyr
            simp only [Rv.agg, rAgg]
            go_wp2_with (first
              | ((with_reducible refine aw_alloc (dst := some 7) Hi24.out Hz24.out ?_); intro w8 hb8 hk8 hz8; have Yz8 := hide hz8; clear hz8)
              | ((with_reducible refine aw_store (x := .tmp 7) (M := [.int .i64 yk, .int .i64 yt, .int .i64 ym, .slice ya yn yc]) Try.agg24 rfl rfl rfl (by simp [Value.oneCell']) hb8 (by simp [Value.cells]) ?_); intro w9 hb9 hk9 hz9; have Yz9 := hide hz9; clear hz9; rw [put_whole _ _ (by simp [Value.cells])] at hb9; have hk79 : Kept (fun _ => False) w7 w9 := hk8.trans hk9 (fun i hi h => by omega); have HB9 := hide (hk79.blk HB7.out (fun h => h)); have HY9 := hide (HY7.out.kept hk79); have HK9 := hide (HK7.out.trans hk79 (fun _ _ h => h)); have d0 := hb9.cell 0; have d1 := hb9.cell 1; have d2 := hb9.cell 2; have d3 := hb9.cell 3; have e0 := HB9.out.cell 0; have e1 := HB9.out.cell 1; have e2 := HB9.out.cell 2; have e3 := HB9.out.cell 3; simp only [List.getElem?_cons_zero, List.getElem?_cons_succ] at d0 d1 d2 d3 e0 e1 e2 e3; have HR9 := hide (HR.out.kept HK9.out); clear hb8 hb9 hk8 hk9 hk79 Yz8 Yz9 HB7 HY7 HK7)
              | fail)
            refine (rsame_at w9 ⟨yk, yt, ym, ⟨ya, yn, yc⟩, yl⟩ ⟨kd, tl, nm, ⟨xa, xn, xc⟩, xl⟩ HY9.out HR9.out true HSY.out).mono ?_
            rintro e w10 ⟨rfl, hk10⟩
            have HK10 := hide (HK9.out.trans hk10 (fun _ _ h => h))
            clear d0 d1 d2 d3 e0 e1 e2 e3 hk10 HB9 HY9 HK9 HR9
            go_wp2_with fail
            refine (merge_at w10 _ ls (HL.out.kept HK10.out) hn HBs.out).mono ?_
            rintro e wm ⟨⟨ma, mn, mc⟩, mw, rfl, hmo, hmm, hml, hkm⟩
            have hma : WsAt wm (.slice ma mn mc) mw := hmo.at (by omega)
            obtain rfl : mn = mw.length := WsAt.len hma
            have HMA := hide hma
            have HMM := hide hmm
            have HKM := hide (HK10.out.trans hkm (fun _ _ h => h))
            have HRise : Hid (Rising (mw.map Wv.wr)) := hide (by rw [hmm]; exact merge_rising _)
            clear hmo hmm hkm hma
            go_wp2
            go_loopw [50] (fun iv wr => ∃ k : Nat, iv = .int .i64 k ∧ k ≤ mw.length ∧ Kept (fun _ => False) wm wr) (fun iv _ => mw.length - (intOf iv).toNat)
            case atStart => exact ⟨0, rfl, Nat.zero_le _, Kept.refl _ _⟩
            case round =>
              obtain ⟨k, rfl, hk, hkr⟩ := hrel
              by_cases hlt : k < mw.length
              · cases k with
                | zero =>
                  have HG0 : Hid (decide (((0 : Nat) : Int) > 0) = false) := hide (by decide)
                  go_wp2
                  refine hold_frame (p := fun fr => Code.wp Try.prog _ _ fr _) ?_
                  intro fr hfr
                  have e9 : fr.eval (.tmp 9) = .slice ma mw.length mc := by rw [hfr.out]; rfl
                  have e10 : fr.eval (.tmp 10) = .int .i64 ((0 : Nat) : Int) := by rw [hfr.out]; rfl
                  have hts : fr.tmps.size = 75 := by rw [hfr.out]; rfl
                  refine region_S0 99 Try.mixed ?_
                  intro w0 hkw hheap
                  have hS0 : Kept (fun _ => False) w0 w0 := Kept.refl (fun _ => False) w0
                  refine ⟨Kept (fun _ => False) w0, ?_⟩
                  refine tkS 0 53 (v := .int .i64 ((0 : Nat) : Int)) hS0 rfl rfl (by kernel_rfl) (by kernel_rfl) (by kernel_rfl) (by kernel_rfl) (wanted_none rfl) (fun _ _ _ h => h) (fun U hU => r_move (by simp [eval_put_ne, eval_put_eq, size_put, hts, e10])) ?_
                  refine tkS 1 54 (v := .bool false) hS0 rfl rfl (by kernel_rfl) (by kernel_rfl) (by kernel_rfl) (by kernel_rfl) (wanted_none rfl) (fun _ _ _ h => h) (fun U hU => (r_gtr3 (p := ((0 : Nat) : Int)) (q := 0) (by simp [eval_put_ne, eval_put_eq, size_put, hts]) rfl).trans (by rw [HG0.out])) ?_
                  refine tkS 2 55 (v := .bool false) hS0 rfl rfl (by kernel_rfl) (by kernel_rfl) (by kernel_rfl) (by kernel_rfl) (wanted_none rfl) (fun _ _ _ h => h) (fun U hU => r_move (by simp [eval_put_ne, eval_put_eq, size_put, hts])) ?_
                  refine tkNS 3 56 hS0 rfl rfl (by kernel_rfl) (by kernel_rfl) (by kernel_rfl) (by kernel_rfl) (wanted_not (j := 2) (d := 55) (bb := true) rfl rfl rfl (by simp [eval_put_ne, eval_put_eq, size_put, hts]) (by simp [size_put, hts])) (fun _ _ _ h => h) ?_
                  refine tkNS 4 57 hS0 rfl rfl (by kernel_rfl) (by kernel_rfl) (by kernel_rfl) (by kernel_rfl) (wanted_not (j := 2) (d := 55) (bb := true) rfl rfl rfl (by simp [eval_put_ne, eval_put_eq, size_put, hts]) (by simp [size_put, hts])) (fun _ _ _ h => h) ?_
                  refine tkNS 5 58 hS0 rfl rfl (by kernel_rfl) (by kernel_rfl) (by kernel_rfl) (by kernel_rfl) (wanted_not (j := 2) (d := 55) (bb := true) rfl rfl rfl (by simp [eval_put_ne, eval_put_eq, size_put, hts]) (by simp [size_put, hts])) (fun _ _ _ h => h) ?_
                  refine tkNS 6 59 hS0 rfl rfl (by kernel_rfl) (by kernel_rfl) (by kernel_rfl) (by kernel_rfl) (wanted_not (j := 2) (d := 55) (bb := true) rfl rfl rfl (by simp [eval_put_ne, eval_put_eq, size_put, hts]) (by simp [size_put, hts])) (fun _ _ _ h => h) ?_
                  refine tkNS 7 60 hS0 rfl rfl (by kernel_rfl) (by kernel_rfl) (by kernel_rfl) (by kernel_rfl) (wanted_not (j := 2) (d := 55) (bb := true) rfl rfl rfl (by simp [eval_put_ne, eval_put_eq, size_put, hts]) (by simp [size_put, hts])) (fun _ _ _ h => h) ?_
                  refine tkNS 8 61 hS0 rfl rfl (by kernel_rfl) (by kernel_rfl) (by kernel_rfl) (by kernel_rfl) (wanted_not (j := 2) (d := 55) (bb := true) rfl rfl rfl (by simp [eval_put_ne, eval_put_eq, size_put, hts]) (by simp [size_put, hts])) (fun _ _ _ h => h) ?_
                  refine tkNS 9 62 hS0 rfl rfl (by kernel_rfl) (by kernel_rfl) (by kernel_rfl) (by kernel_rfl) (wanted_not (j := 2) (d := 55) (bb := true) rfl rfl rfl (by simp [eval_put_ne, eval_put_eq, size_put, hts]) (by simp [size_put, hts])) (fun _ _ _ h => h) ?_
                  refine tkNS 10 63 hS0 rfl rfl (by kernel_rfl) (by kernel_rfl) (by kernel_rfl) (by kernel_rfl) (wanted_not (j := 2) (d := 55) (bb := true) rfl rfl rfl (by simp [eval_put_ne, eval_put_eq, size_put, hts]) (by simp [size_put, hts])) (fun _ _ _ h => h) ?_
                  refine tkNS 11 64 hS0 rfl rfl (by kernel_rfl) (by kernel_rfl) (by kernel_rfl) (by kernel_rfl) (wanted_not (j := 2) (d := 55) (bb := true) rfl rfl rfl (by simp [eval_put_ne, eval_put_eq, size_put, hts]) (by simp [size_put, hts])) (fun _ _ _ h => h) ?_
                  refine tkNS 12 65 hS0 rfl rfl (by kernel_rfl) (by kernel_rfl) (by kernel_rfl) (by kernel_rfl) (wanted_not (j := 2) (d := 55) (bb := true) rfl rfl rfl (by simp [eval_put_ne, eval_put_eq, size_put, hts]) (by simp [size_put, hts])) (fun _ _ _ h => h) ?_
                  refine tkNS 13 66 hS0 rfl rfl (by kernel_rfl) (by kernel_rfl) (by kernel_rfl) (by kernel_rfl) (wanted_not (j := 2) (d := 55) (bb := true) rfl rfl rfl (by simp [eval_put_ne, eval_put_eq, size_put, hts]) (by simp [size_put, hts])) (fun _ _ _ h => h) ?_
                  refine tkNS 14 67 hS0 rfl rfl (by kernel_rfl) (by kernel_rfl) (by kernel_rfl) (by kernel_rfl) (wanted_not (j := 2) (d := 55) (bb := true) rfl rfl rfl (by simp [eval_put_ne, eval_put_eq, size_put, hts]) (by simp [size_put, hts])) (fun _ _ _ h => h) ?_
                  refine tkS 15 68 (v := .bool false) hS0 rfl rfl (by kernel_rfl) (by kernel_rfl) (by kernel_rfl) (by kernel_rfl) (wanted_none rfl) (fun _ _ _ h => h) (fun U hU => r_pickF (by simp [eval_put_ne, eval_put_eq, size_put, hts]) rfl) ?_
                  refine doneS (by kernel_rfl) ?_
                  have hkr2 := hkr.trans hkw (fun _ _ h => h)
                  clear hS0 hkw hheap
                  rw [hfr.out]
                  clear hfr e9 e10 hts
                  simp only [put_lit, put_none, List.set_cons_succ, List.set_cons_zero]
                  go_wp2
                  go_roundw
                  case rel => exact ⟨0 + 1, by simp, by omega, hkr2⟩
                  case measure => simp [intOf]; omega
                | succ j =>
                  have HG0 : Hid (decide (((j + 1 : Nat) : Int) > 0) = true) := hide (decide_eq_true (by omega))
                  obtain ⟨mg, moff, rfl, a0, a1, _, _⟩ := (HMA.out.kept hkr).get (k := j) (by omega)
                  obtain ⟨mg', moff', e, b0, b1, _, _⟩ := (HMA.out.kept hkr).get (k := j + 1) (by omega)
                  cases e
                  have HCa : Hid (Cells wr mg (moff + j * 2) [.int .i64 mw[j].blk]) := hide (by
                    intro i u hj
                    match i with
                    | 0 => simp at hj; rw [← hj]; exact a0
                    | i + 1 => simp at hj)
                  have HCb : Hid (Cells wr mg (moff + (j + 1) * 2) [.int .i64 mw[j + 1].blk]) := hide (by
                    intro i u hj
                    match i with
                    | 0 => simp at hj; rw [← hj]; exact b0
                    | i + 1 => simp at hj)
                  have hpq := rising_at HRise.out j (by omega)
                  obtain ⟨p, hp⟩ : ∃ p, p = mw[j].blk := ⟨_, rfl⟩
                  obtain ⟨q, hq⟩ : ∃ q, q = mw[j + 1].blk := ⟨_, rfl⟩
                  rw [← hp, ← hq] at hpq
                  rw [← hp] at HCa
                  rw [← hq] at HCb
                  have HPQ : Hid (decide (p ≥ q) = false) := hide (by simp; omega)
                  clear a0 a1 b0 b1 hp hq hpq
                  go_wp2
                  refine hold_frame (p := fun fr => Code.wp Try.prog _ _ fr _) ?_
                  intro fr hfr
                  have e9 : fr.eval (.tmp 9) = .slice (some ⟨mg, moff, none⟩) mw.length mc := by rw [hfr.out]; rfl
                  have e10 : fr.eval (.tmp 10) = .int .i64 ((j + 1 : Nat) : Int) := by rw [hfr.out]; rfl
                  have hts : fr.tmps.size = 75 := by rw [hfr.out]; rfl
                  refine region_S0 99 Try.mixed ?_
                  intro w0 hkw hheap
                  have cAw := hkw.cells HCa.out (fun h => h)
                  have cBw := hkw.cells HCb.out (fun h => h)
                  have hS0 : Kept (fun _ => False) w0 w0 := Kept.refl (fun _ => False) w0
                  refine ⟨Kept (fun _ => False) w0, ?_⟩
                  refine tkS 0 53 (v := .int .i64 ((j + 1 : Nat) : Int)) hS0 rfl rfl (by kernel_rfl) (by kernel_rfl) (by kernel_rfl) (by kernel_rfl) (wanted_none rfl) (fun _ _ _ h => h) (fun U hU => r_move (by simp [eval_put_ne, eval_put_eq, size_put, hts, e10])) ?_
                  refine tkS 1 54 (v := .bool true) hS0 rfl rfl (by kernel_rfl) (by kernel_rfl) (by kernel_rfl) (by kernel_rfl) (wanted_none rfl) (fun _ _ _ h => h) (fun U hU => (r_gtr3 (p := ((j + 1 : Nat) : Int)) (q := 0) (by simp [eval_put_ne, eval_put_eq, size_put, hts]) rfl).trans (by rw [HG0.out])) ?_
                  refine tkS 2 55 (v := .bool true) hS0 rfl rfl (by kernel_rfl) (by kernel_rfl) (by kernel_rfl) (by kernel_rfl) (wanted_none rfl) (fun _ _ _ h => h) (fun U hU => r_move (by simp [eval_put_ne, eval_put_eq, size_put, hts])) ?_
                  refine tkS 3 56 (v := .slice (some ⟨mg, moff, none⟩) mw.length mc) hS0 rfl rfl (by kernel_rfl) (by kernel_rfl) (by kernel_rfl) (by kernel_rfl) (wanted_some (j := 2) (d := 55) (bb := true) rfl rfl rfl (by simp [eval_put_ne, eval_put_eq, size_put, hts]) (by simp [size_put, hts])) (fun _ _ _ h => h) (fun U hU => r_move (by simp [eval_put_ne, eval_put_eq, size_put, hts, e9])) ?_
                  refine tkS 4 57 (v := .int .i64 ((j + 1 : Nat) : Int)) hS0 rfl rfl (by kernel_rfl) (by kernel_rfl) (by kernel_rfl) (by kernel_rfl) (wanted_some (j := 2) (d := 55) (bb := true) rfl rfl rfl (by simp [eval_put_ne, eval_put_eq, size_put, hts]) (by simp [size_put, hts])) (fun _ _ _ h => h) (fun U hU => r_move (by simp [eval_put_ne, eval_put_eq, size_put, hts, e10])) ?_
                  refine tkS 5 58 (v := .int .i64 ((j : Nat) : Int)) hS0 rfl rfl (by kernel_rfl) (by kernel_rfl) (by kernel_rfl) (by kernel_rfl) (wanted_some (j := 2) (d := 55) (bb := true) rfl rfl rfl (by simp [eval_put_ne, eval_put_eq, size_put, hts]) (by simp [size_put, hts])) (fun _ _ _ h => h) (fun U hU => r_subk (m := j) (by omega) (by simp [eval_put_ne, eval_put_eq, size_put, hts]) rfl) ?_
                  refine tkS 6 59 (v := .pointer (some ⟨mg, moff + j * 2, none⟩)) hS0 rfl rfl (by kernel_rfl) (by kernel_rfl) (by kernel_rfl) (by kernel_rfl) (wanted_some (j := 2) (d := 55) (bb := true) rfl rfl rfl (by simp [eval_put_ne, eval_put_eq, size_put, hts]) (by simp [size_put, hts])) (fun _ _ _ h => h) (fun U hU => r_ix22 j (b := mg) (off := moff) (len := mw.length) (cap := mc) (kk := .i64) (by simp [eval_put_ne, eval_put_eq, size_put, hts]) (by simp [eval_put_ne, eval_put_eq, size_put, hts]) (by omega)) ?_
                  refine tkS 7 60 (v := .pointer (some ⟨mg, moff + j * 2, none⟩)) hS0 rfl rfl (by kernel_rfl) (by kernel_rfl) (by kernel_rfl) (by kernel_rfl) (wanted_some (j := 2) (d := 55) (bb := true) rfl rfl rfl (by simp [eval_put_ne, eval_put_eq, size_put, hts]) (by simp [size_put, hts])) (fun _ _ _ h => h) (fun U hU => r_f40_0 (by simp [eval_put_ne, eval_put_eq, size_put, hts])) ?_
                  refine tkS 8 61 (v := .int .i64 p) hS0 rfl rfl (by kernel_rfl) (by kernel_rfl) (by kernel_rfl) (by kernel_rfl) (wanted_some (j := 2) (d := 55) (bb := true) rfl rfl rfl (by simp [eval_put_ne, eval_put_eq, size_put, hts]) (by simp [size_put, hts])) (fun _ _ _ h => h) (fun U hU => r_ld3 (b := mg) (o := moff + j * 2) (by simp [eval_put_ne, eval_put_eq, size_put, hts]) (by have := (hU.cells cAw (fun h => h)) 0 _ rfl; simpa using this)) ?_
                  refine tkS 9 62 (v := .slice (some ⟨mg, moff, none⟩) mw.length mc) hS0 rfl rfl (by kernel_rfl) (by kernel_rfl) (by kernel_rfl) (by kernel_rfl) (wanted_some (j := 2) (d := 55) (bb := true) rfl rfl rfl (by simp [eval_put_ne, eval_put_eq, size_put, hts]) (by simp [size_put, hts])) (fun _ _ _ h => h) (fun U hU => r_move (by simp [eval_put_ne, eval_put_eq, size_put, hts, e9])) ?_
                  refine tkS 10 63 (v := .int .i64 ((j + 1 : Nat) : Int)) hS0 rfl rfl (by kernel_rfl) (by kernel_rfl) (by kernel_rfl) (by kernel_rfl) (wanted_some (j := 2) (d := 55) (bb := true) rfl rfl rfl (by simp [eval_put_ne, eval_put_eq, size_put, hts]) (by simp [size_put, hts])) (fun _ _ _ h => h) (fun U hU => r_move (by simp [eval_put_ne, eval_put_eq, size_put, hts, e10])) ?_
                  refine tkS 11 64 (v := .pointer (some ⟨mg, moff + (j + 1) * 2, none⟩)) hS0 rfl rfl (by kernel_rfl) (by kernel_rfl) (by kernel_rfl) (by kernel_rfl) (wanted_some (j := 2) (d := 55) (bb := true) rfl rfl rfl (by simp [eval_put_ne, eval_put_eq, size_put, hts]) (by simp [size_put, hts])) (fun _ _ _ h => h) (fun U hU => r_ix22 (j + 1) (b := mg) (off := moff) (len := mw.length) (cap := mc) (kk := .i64) (by simp [eval_put_ne, eval_put_eq, size_put, hts]) (by simp [eval_put_ne, eval_put_eq, size_put, hts]) (by omega)) ?_
                  refine tkS 12 65 (v := .pointer (some ⟨mg, moff + (j + 1) * 2, none⟩)) hS0 rfl rfl (by kernel_rfl) (by kernel_rfl) (by kernel_rfl) (by kernel_rfl) (wanted_some (j := 2) (d := 55) (bb := true) rfl rfl rfl (by simp [eval_put_ne, eval_put_eq, size_put, hts]) (by simp [size_put, hts])) (fun _ _ _ h => h) (fun U hU => r_f40_0 (by simp [eval_put_ne, eval_put_eq, size_put, hts])) ?_
                  refine tkS 13 66 (v := .int .i64 q) hS0 rfl rfl (by kernel_rfl) (by kernel_rfl) (by kernel_rfl) (by kernel_rfl) (wanted_some (j := 2) (d := 55) (bb := true) rfl rfl rfl (by simp [eval_put_ne, eval_put_eq, size_put, hts]) (by simp [size_put, hts])) (fun _ _ _ h => h) (fun U hU => r_ld3 (b := mg) (o := moff + (j + 1) * 2) (by simp [eval_put_ne, eval_put_eq, size_put, hts]) (by have := (hU.cells cBw (fun h => h)) 0 _ rfl; simpa using this)) ?_
                  refine tkS 14 67 (v := .bool false) hS0 rfl rfl (by kernel_rfl) (by kernel_rfl) (by kernel_rfl) (by kernel_rfl) (wanted_some (j := 2) (d := 55) (bb := true) rfl rfl rfl (by simp [eval_put_ne, eval_put_eq, size_put, hts]) (by simp [size_put, hts])) (fun _ _ _ h => h) (fun U hU => (r_geq3 (p := p) (q := q) (by simp [eval_put_ne, eval_put_eq, size_put, hts]) (by simp [eval_put_ne, eval_put_eq, size_put, hts])).trans (by rw [HPQ.out])) ?_
                  refine tkS 15 68 (v := .bool false) hS0 rfl rfl (by kernel_rfl) (by kernel_rfl) (by kernel_rfl) (by kernel_rfl) (wanted_none rfl) (fun _ _ _ h => h) (fun U hU => r_pick (by simp [eval_put_ne, eval_put_eq, size_put, hts]) (by simp [eval_put_ne, eval_put_eq, size_put, hts])) ?_
                  refine doneS (by kernel_rfl) ?_
                  have hkr2 := hkr.trans hkw (fun _ _ h => h)
                  clear cAw cBw
                  clear hS0 hkw hheap
                  rw [hfr.out]
                  clear hfr e9 e10 hts
                  simp only [put_lit, put_none, List.set_cons_succ, List.set_cons_zero]
                  go_wp2
                  go_roundw
                  case rel => exact ⟨j + 1 + 1, by simp, by omega, hkr2⟩
                  case measure => simp [intOf]; omega
              · obtain rfl : mw.length = k := by omega
                clear hlt hk
                go_wp2_with ((with_reducible refine stop_bs 38 ?_))
                refine hide ?_
                refine wpList_run rfl (run_bs1 (M := [.slice ma mw.length mc]) Try.underlying38 Hi22.out Hz22.out Hs22.out rfl (by simp) (by simp [Value.cells]) rfl) ?_
                have hbn := Blk.new wr [.slice ma mw.length mc] 22
                have hkn := Kept.alloc (fun _ => False) wr (.cells [.slice ma mw.length mc].toArray 22)
                obtain ⟨gn, hgn⟩ : ∃ b, b = wr.heap.size := ⟨_, rfl⟩
                rw [← hgn] at hbn ⊢
                generalize wr.alloc (.cells [.slice ma mw.length mc].toArray 22) = wn at hbn hkn ⊢
                have hkrn := hkr.trans hkn (fun _ _ h => h)
                have hls : LsAt wn (.slice (some ⟨gn, 0, none⟩) 1 1) [(⟨ma, mw.length, mc⟩, mw)] := by
                  refine ⟨⟨_, _, rfl, Nat.le_refl _, fun _ => ⟨gn, 0, rfl, fun j v hj => by rw [Nat.zero_add, hbn.cell]; exact hj⟩, fun h => by cases h⟩, fun x hx => ?_, by simp⟩
                  obtain rfl := List.mem_singleton.1 hx
                  exact HMA.out.kept hkrn
                have hav : allV [((⟨ma, mw.length, mc⟩ : Sl), mw)] = mw := by simp [allV]
                have HM2 := hide (merge_at wn _ _ hls (by rw [hav]; exact hml) (fun y hy => by
                  rw [hav] at hy
                  exact merged_le HMM.out HBs.out y hy))
                rw [hav] at HM2
                have HMAn := hide (HMA.out.kept hkrn)
                have HKn := hide (HKM.out.trans hkrn (fun _ _ h => h))
                clear hbn hkn hkrn hls hav hgn hkr
                go_wp2_with fail
                refine HM2.out.mono ?_
                rintro e wo ⟨⟨na, nn, nc⟩, nw, rfl, hno, hnm, hnl, hko⟩
                have hna : WsAt wo (.slice na nn nc) nw := hno.at (by omega)
                have hsw : sameWs nw mw = true := (sameWs_iff _ _).2 (by rw [hnm, merge_self HRise.out])
                have HS := hide (sws_at wo _ _ nw mw hna (HMAn.out.kept hko) true hsw)
                have HKo := hide (HKn.out.trans hko (fun _ _ h => h))
                clear hno hnm hnl hko hna hsw HM2 HMAn HKn
                go_wp2_with fail
                refine HS.out.mono ?_
                rintro e wq ⟨rfl, hkq⟩
                go_wp2
                go_ret
                exact ⟨rfl, HKo.out.trans hkq (fun _ _ h => h)⟩
end Go.Proofs.Ytcdlgaknpmlfeaa
