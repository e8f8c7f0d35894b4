/-
  Right, of the reference.
-/
import Derived.Test.YtcdlgaknpmlfeaaRRefMergeW
import Derived.Test.YtcdlgaknpmlfeaaRRightB
namespace Go.Proofs.Ytcdlgaknpmlfeaa
open Go.RowKit Go.Shelf
set_option linter.unusedSimpArgs false
set_option linter.unusedVariables false

section
variable {ρ : Operand → Value} {w : World} {dst : Option Tmp} {ty : TypeId} {pos : String} {aft : Array Edge} {gd : Option (Nat × Bool)} {x y z : Operand}
theorem r_f24_3 {b : Nat} (hx : ρ x = .pointer (some ⟨b, 0, none⟩)) : (execOp ρ ⟨dst, .fieldAddr 24 x 3, ty, pos, aft, gd⟩).run Try.prog w = .ok (.value (.pointer (some ⟨b, 3, none⟩))) w := by
  go_simp
end
section
variable {P : Program} {ops : Array Oper} {Q : Exit → Act → World → Prop} {a : Act} {w : World} {rest : List Oper} {dst : Option Tmp} {ty : TypeId} {pos : String} {aft : Array Edge} {t : TypeId} {x : Operand}
theorem stop_boxA (h : Hid (wpList P ops Q (⟨dst, .box t x, ty, pos, aft, none⟩ :: rest) a w)) : wpList P ops Q (⟨dst, .box t x, ty, pos, aft, none⟩ :: rest) a w := h.out
end
def lastB : Int → List Wr → Int
  | lo, [] => lo
  | _, x :: l => lastB x.blk l
theorem lastB_snoc : ∀ (l : List Wr) (lo : Int) (w : Wr), lastB lo (l ++ [w]) = w.blk
  | [], _, _ => rfl
  | x :: l, _, w => by simp only [List.cons_append, lastB]; exact lastB_snoc l x.blk w
theorem goodFrom_snoc : ∀ (l : List Wr) (lo : Int) (w : Wr), goodFrom lo (l ++ [w]) = (goodFrom lo l && decide (lastB lo l < w.blk ∧ 0 ≤ w.blk ∧ w.blk < 64 ∧ w.B.length = 64))
  | [], lo, w => by
    show (decide _ && true) = (true && decide _)
    rw [Bool.and_true, Bool.true_and]
    rfl
  | x :: l, lo, w => by
    show (decide _ && goodFrom x.blk (l ++ [w])) = ((decide _ && goodFrom x.blk l) && decide _)
    rw [goodFrom_snoc l x.blk w, Bool.and_assoc]
    rfl
theorem good_take {l : List Wv} {k : Nat} (hk : k < l.length) : goodFrom (-1) ((l.take (k + 1)).map Wv.wr) = (goodFrom (-1) ((l.take k).map Wv.wr) && decide (lastB (-1) ((l.take k).map Wv.wr) < l[k].wr.blk ∧ 0 ≤ l[k].wr.blk ∧ l[k].wr.blk < 64 ∧ l[k].wr.B.length = 64)) := by
  rw [List.take_succ_eq_append_getElem hk, List.map_append, List.map_cons, List.map_nil, goodFrom_snoc]
theorem lastB_take {l : List Wv} {j : Nat} (hj : j < l.length) : lastB (-1) ((l.take (j + 1)).map Wv.wr) = l[j].blk := by
  rw [List.take_succ_eq_append_getElem hj, List.map_append, List.map_cons, List.map_nil, lastB_snoc]
  rfl
theorem rightR_1 {t n : Int} {l : List Wr} : rightR ⟨1, t, n, l⟩ = (tnB t n && decide (l.length = 0)) := by simp [rightR, tnOk, tnB]
theorem rightR_2 {t n : Int} {l : List Wr} : rightR ⟨2, t, n, l⟩ = decide (t = 0 ∧ n = 0 ∧ l.length = 0) := by simp [rightR]
theorem rightR_3 {t n : Int} {l : List Wr} : rightR ⟨3, t, n, l⟩ = (tnB t n && decide (0 < n) && goodFrom (-1) l) := by simp [rightR, tnOk, tnB]
theorem rightR_no {k t n : Int} {l : List Wr} (h1 : k ≠ 1) (h2 : k ≠ 2) (h3 : k ≠ 3) : rightR ⟨k, t, n, l⟩ = false := by simp [rightR, h1, h2, h3]

set_option maxRecDepth 100000 in
set_option maxHeartbeats 8000000 in
theorem rrightP_at (w : World) (kd tl nm : Int) (xa : Option Addr) (xn xc : Nat) (l : List Wv) (h : WsAt w (.slice xa xn xc) l) (hbnd : l.length ≤ 9223372036854775807) (b : Bool) (hb : rightR ⟨kd, tl, nm, l.map Wv.wr⟩ = b) :
    Calls Try.prog 9 #[rAgg kd tl nm ⟨xa, xn, xc⟩] w fun e w' => e = .returned (.bool b) ∧ Kept (fun _ => False) w w' := by
  have hxl := WsAt.len h
  obtain ⟨n, hn⟩ : ∃ n, n = l.length := ⟨_, rfl⟩
  rw [← hn] at hxl
  obtain rfl : n = xn := hxl.symm
  have Hn : Hid (n = l.length) := hide hn
  have HBnd := hide hbnd
  have hnb : n ≤ 9223372036854775807 := by omega
  have HW := hide h
  have HB := hide hb
  clear h hb hn hbnd
  obtain ⟨i40, hi40, hz40, hs40, hb40⟩ := info_parts Try.info40
  have Hi40 := hide hi40
  have Hz40 := hide hz40
  clear hi40 hz40 hs40 hb40
  go_enter Try.func9, Try.ntmps9
  by_cases hk2 : kd = 2
  · subst hk2
    go_wp2_with (with_reducible refine stop_boxA ?_)
    refine hide ?_
    refine aw_box (t := 24) (v := rAgg 2 tl nm ⟨xa, n, xc⟩) rfl ?_
    intro w1 hb1 hk1 hz1
    have c0 : w1.cell? ⟨w.heap.size, 0, none⟩ = some (.int .i64 2) := hb1.cell 0
    have c1 : w1.cell? ⟨w.heap.size, 1, none⟩ = some (.int .i64 tl) := hb1.cell 1
    have c2 : w1.cell? ⟨w.heap.size, 2, none⟩ = some (.int .i64 nm) := hb1.cell 2
    have c3 : w1.cell? ⟨w.heap.size, 3, none⟩ = some (.slice xa n xc) := hb1.cell 3
    have HK1 := hide hk1
    clear hz1 hb1 hk1
    by_cases h1 : tl = 0
    · by_cases h2 : nm = 0
      · by_cases h3 : n = 0
        · obtain rfl : b = true := by rw [← HB.out, rightR_2, List.length_map, ← Hn.out, decide_eq_true_eq]; exact ⟨h1, h2, h3⟩
          have hn0 : (n : Int) = 0 := by omega
          go_wp2
          go_ret
          exact ⟨by first | rfl | (simp; done) | (simp; omega), HK1.out⟩
        · obtain rfl : b = false := by rw [← HB.out, rightR_2, List.length_map, ← Hn.out, decide_eq_false_iff_not]; exact fun h => h3 h.2.2
          have hn0 : ¬ (n : Int) = 0 := by omega
          go_wp2
          go_ret
          exact ⟨by first | rfl | (simp; done) | (simp; omega), HK1.out⟩
      · obtain rfl : b = false := by rw [← HB.out, rightR_2, decide_eq_false_iff_not]; exact fun h => h2 h.2.1
        go_wp2
        go_ret
        exact ⟨by first | rfl | (simp; done) | (simp; omega), HK1.out⟩
    · obtain rfl : b = false := by rw [← HB.out, rightR_2, decide_eq_false_iff_not]; exact fun h => h1 h.1
      go_wp2
      go_ret
      exact ⟨by first | rfl | (simp; done) | (simp; omega), HK1.out⟩
  · go_wp2_with (with_reducible refine stop_boxA ?_)
    refine hide ?_
    refine aw_box (t := 24) (v := rAgg kd tl nm ⟨xa, n, xc⟩) rfl ?_
    intro w1 hb1 hk1 hz1
    have c0 : w1.cell? ⟨w.heap.size, 0, none⟩ = some (.int .i64 kd) := hb1.cell 0
    have c1 : w1.cell? ⟨w.heap.size, 1, none⟩ = some (.int .i64 tl) := hb1.cell 1
    have c2 : w1.cell? ⟨w.heap.size, 2, none⟩ = some (.int .i64 nm) := hb1.cell 2
    have c3 : w1.cell? ⟨w.heap.size, 3, none⟩ = some (.slice xa n xc) := hb1.cell 3
    obtain ⟨b0, hb0⟩ : ∃ b, b = w.heap.size := ⟨_, rfl⟩
    rw [← hb0] at c0 c1 c2 c3 hb1 ⊢
    have HB1 : Hid (Blk w1 b0 [.int .i64 kd, .int .i64 tl, .int .i64 nm, .slice xa n xc] 24) := hide hb1
    have HK1 := hide hk1
    clear hz1 hb1 hk1 hb0
    by_cases h1 : 1 ≤ tl
    · have h1' : ¬ tl < 1 := by omega
      by_cases h2 : tl ≤ 2147483647
      · have h2' : ¬ 2147483647 < tl := by omega
        by_cases h3 : 0 ≤ nm
        · have h3' : ¬ nm < 0 := by omega
          by_cases h4 : nm ≤ 1099511627776
          · have h4' : ¬ 1099511627776 < nm := by omega
            have HTN : Hid (tnB tl nm = true) := hide (by unfold tnB; simp; omega)
            by_cases hk1 : kd = 1
            · subst hk1
              by_cases hl0 : n = 0
              · obtain rfl : b = true := by
                  rw [← HB.out, rightR_1, HTN.out, List.length_map, ← Hn.out, hl0]
                  rfl
                have hn0 : (n : Int) = 0 := by omega
                go_wp2
                go_ret
                exact ⟨by first | rfl | (simp; done) | (simp; omega), HK1.out⟩
              · obtain rfl : b = false := by
                  rw [← HB.out, rightR_1, List.length_map, ← Hn.out, decide_eq_false hl0, Bool.and_false]
                have hn0 : ¬ (n : Int) = 0 := by omega
                go_wp2
                go_ret
                exact ⟨by first | rfl | (simp; done) | (simp; omega), HK1.out⟩
            · go_wp2
              go_loopw [3, 54] (fun bv kv W => ∃ (b3 : Bool) (k : Nat), bv = .bool b3 ∧ kv = .int .i64 k ∧ k ≤ n ∧ Hid (b3 = (true && goodFrom (-1) ((l.take k).map Wv.wr))) ∧ Kept (fun _ => False) w1 W) (fun _ kv _ => n - (intOf kv).toNat)
              case atStart => exact ⟨true, 0, rfl, rfl, Nat.zero_le _, hide (by simp [goodFrom]), Kept.refl _ _⟩
              case round =>
                obtain ⟨b3, k, rfl, rfl, hk, HI, hkr⟩ := hrel
                by_cases hlt : k < n
                · have hkl : k < l.length := by rw [← Hn.out]; exact hlt
                  obtain ⟨g, off, rfl, c0, c1, hsrc, hnl⟩ := ((HW.out.kept HK1.out).kept hkr).get hkl
                  have HCells : Hid (∀ j (hj : j < l.length), Cells wr g (off + j * 2) [.int .i64 l[j].blk]) := hide (fun j hj => by
                    obtain ⟨g', off', e, c, _⟩ := ((HW.out.kept HK1.out).kept hkr).get hj
                    cases e
                    exact cell_one c)
                  have HStep := hide (good_take hkl)
                  have HPrev : Hid (∀ j (hj : j + 1 = k), lastB (-1) ((l.take k).map Wv.wr) = (l[j]'(by omega)).blk) := hide (fun j hj => by subst hj; exact lastB_take (by omega))
                  obtain ⟨x, hx⟩ : ∃ x, x = l[k] := ⟨_, rfl⟩
                  rw [← hx] at c0 c1 HStep hnl
                  obtain ⟨p, ⟨ya, yn, yc⟩, yB⟩ := x
                  simp only [Wv.wr] at c0 c1 HStep hnl
                  have Hyl : Hid (yn = yB.length) := hide hnl
                  have Hx := hide hx
                  clear hx hsrc hnl
                  have e3 : wr.cell? ⟨b0, 3, none⟩ = some (.slice (some ⟨g, off, none⟩) n xc) := (hkr.blk HB1.out (fun h => h)).cell 3
                  go_wp2_with (first
                    | ((with_reducible refine aw_alloc (t := 40) Hi40.out Hz40.out ?_); intro w3 hw3 hk3 hz3; have Yz3 := hide hz3; clear hz3 c0 c1)
                    | ((with_reducible refine aw_store (M := [.int .i64 p, .slice ya yn yc]) Try.agg40 rfl rfl rfl (by simp [Value.oneCell']) hw3 (by simp [Value.cells]) ?_); intro w4 hw4 hk4 hz4; rw [put_whole _ _ (by simp [Value.cells])] at hw4; have hkrr : Kept (fun _ => False) wr w4 := hk3.trans hk4 (fun i hi h => by omega); have hkr2 := hkr.trans hkrr (fun _ _ h => h); clear hz4)
                    | fail)
                  obtain ⟨b5, hb5⟩ : ∃ b, b = wr.heap.size := ⟨_, rfl⟩
                  rw [← hb5] at hw4 ⊢
                  have HC5 : Hid (Cells w4 b5 0 [.int .i64 p, .slice ya yn yc]) := hide (fun i u hi => by rw [Nat.zero_add, hw4.cell]; exact hi)
                  have HC0 : Hid (Cells w4 b0 3 [.slice (some ⟨g, off, none⟩) n xc]) := hide (cell_one ((hkr2.blk HB1.out (fun h => h)).cell 3))
                  have HCj4 : Hid (∀ j (hj : j < l.length), Cells w4 g (off + j * 2) [.int .i64 l[j].blk]) := hide (fun j hj => hkrr.cells (HCells.out j hj) (fun h => h))
                  clear hw3 hw4 hk3 hk4 hkr hkrr hb5 Yz3 HCells e3
                  cases b3 with
                  | false =>
                    have HT : Hid (false = (true && goodFrom (-1) ((l.take (k + 1)).map Wv.wr))) := hide (by rw [HStep.out, ← Bool.and_assoc, ← HI.out]; rfl)
                    clear HStep HI
                    go_wp2
                    refine hold_frame (p := fun fr => Code.wp Try.prog _ _ fr _) ?_
                    intro fr hfr
                    have e1 : fr.eval (.tmp 1) = .pointer (some ⟨b0, 0, none⟩) := by rw [hfr.out]; rfl
                    have e3 : fr.eval (.tmp 3) = .bool false := by rw [hfr.out]; rfl
                    have e4 : fr.eval (.tmp 4) = .int .i64 ((k : Nat) : Int) := by rw [hfr.out]; rfl
                    have e5 : fr.eval (.tmp 5) = .pointer (some ⟨b5, 0, none⟩) := by rw [hfr.out]; rfl
                    have hts : fr.tmps.size = 104 := by rw [hfr.out]; rfl
                    refine region_S0 99 Try.mixed ?_
                    intro w0 hkw hheap
                    have c5w := hkw.cells HC5.out (fun h => h)
                    have hS0 : Kept (fun _ => False) w0 w0 := Kept.refl (fun _ => False) w0
                    refine ⟨Kept (fun _ => False) w0, ?_⟩
                    refine tkS 0 59 (v := .bool false) hS0 rfl rfl (by kernel_rfl) (by kernel_rfl) (by kernel_rfl) (by kernel_rfl) (wanted_none rfl) (fun _ _ _ h => h) (fun U hU => r_move (by simp [eval_put_ne, eval_put_eq, size_put, hts, e3])) ?_
                    refine tkS 1 60 (v := .bool false) hS0 rfl rfl (by kernel_rfl) (by kernel_rfl) (by kernel_rfl) (by kernel_rfl) (wanted_none rfl) (fun _ _ _ h => h) (fun U hU => r_move (by simp [eval_put_ne, eval_put_eq, size_put, hts])) ?_
                    refine tkNS 2 61 hS0 rfl rfl (by kernel_rfl) (by kernel_rfl) (by kernel_rfl) (by kernel_rfl) (wanted_not (j := 1) (d := 60) (bb := true) rfl rfl rfl (by simp [eval_put_ne, eval_put_eq, size_put, hts]) (by simp [size_put, hts])) (fun _ _ _ h => h) ?_
                    refine tkNS 3 62 hS0 rfl rfl (by kernel_rfl) (by kernel_rfl) (by kernel_rfl) (by kernel_rfl) (wanted_not (j := 1) (d := 60) (bb := true) rfl rfl rfl (by simp [eval_put_ne, eval_put_eq, size_put, hts]) (by simp [size_put, hts])) (fun _ _ _ h => h) ?_
                    refine tkNS 4 63 hS0 rfl rfl (by kernel_rfl) (by kernel_rfl) (by kernel_rfl) (by kernel_rfl) (wanted_not (j := 1) (d := 60) (bb := true) rfl rfl rfl (by simp [eval_put_ne, eval_put_eq, size_put, hts]) (by simp [size_put, hts])) (fun _ _ _ h => h) ?_
                    refine tkS 5 64 (v := .bool false) hS0 rfl rfl (by kernel_rfl) (by kernel_rfl) (by kernel_rfl) (by kernel_rfl) (wanted_none rfl) (fun _ _ _ h => h) (fun U hU => r_pickF (by simp [eval_put_ne, eval_put_eq, size_put, hts]) rfl) ?_
                    refine tkS 6 65 (v := .bool false) hS0 rfl rfl (by kernel_rfl) (by kernel_rfl) (by kernel_rfl) (by kernel_rfl) (wanted_none rfl) (fun _ _ _ h => h) (fun U hU => r_move (by simp [eval_put_ne, eval_put_eq, size_put, hts])) ?_
                    refine tkNS 7 66 hS0 rfl rfl (by kernel_rfl) (by kernel_rfl) (by kernel_rfl) (by kernel_rfl) (wanted_not (j := 6) (d := 65) (bb := true) rfl rfl rfl (by simp [eval_put_ne, eval_put_eq, size_put, hts]) (by simp [size_put, hts])) (fun _ _ _ h => h) ?_
                    refine tkNS 8 67 hS0 rfl rfl (by kernel_rfl) (by kernel_rfl) (by kernel_rfl) (by kernel_rfl) (wanted_not (j := 6) (d := 65) (bb := true) rfl rfl rfl (by simp [eval_put_ne, eval_put_eq, size_put, hts]) (by simp [size_put, hts])) (fun _ _ _ h => h) ?_
                    refine tkNS 9 68 hS0 rfl rfl (by kernel_rfl) (by kernel_rfl) (by kernel_rfl) (by kernel_rfl) (wanted_not (j := 6) (d := 65) (bb := true) rfl rfl rfl (by simp [eval_put_ne, eval_put_eq, size_put, hts]) (by simp [size_put, hts])) (fun _ _ _ h => h) ?_
                    refine tkS 10 69 (v := .bool false) hS0 rfl rfl (by kernel_rfl) (by kernel_rfl) (by kernel_rfl) (by kernel_rfl) (wanted_none rfl) (fun _ _ _ h => h) (fun U hU => r_pickF (by simp [eval_put_ne, eval_put_eq, size_put, hts]) rfl) ?_
                    refine tkS 11 70 (v := .bool false) hS0 rfl rfl (by kernel_rfl) (by kernel_rfl) (by kernel_rfl) (by kernel_rfl) (wanted_none rfl) (fun _ _ _ h => h) (fun U hU => r_move (by simp [eval_put_ne, eval_put_eq, size_put, hts])) ?_
                    refine tkNS 12 71 hS0 rfl rfl (by kernel_rfl) (by kernel_rfl) (by kernel_rfl) (by kernel_rfl) (wanted_not (j := 11) (d := 70) (bb := true) rfl rfl rfl (by simp [eval_put_ne, eval_put_eq, size_put, hts]) (by simp [size_put, hts])) (fun _ _ _ h => h) ?_
                    refine tkNS 13 72 hS0 rfl rfl (by kernel_rfl) (by kernel_rfl) (by kernel_rfl) (by kernel_rfl) (wanted_not (j := 11) (d := 70) (bb := true) rfl rfl rfl (by simp [eval_put_ne, eval_put_eq, size_put, hts]) (by simp [size_put, hts])) (fun _ _ _ h => h) ?_
                    refine tkNS 14 73 hS0 rfl rfl (by kernel_rfl) (by kernel_rfl) (by kernel_rfl) (by kernel_rfl) (wanted_not (j := 11) (d := 70) (bb := true) rfl rfl rfl (by simp [eval_put_ne, eval_put_eq, size_put, hts]) (by simp [size_put, hts])) (fun _ _ _ h => h) ?_
                    refine tkNS 15 74 hS0 rfl rfl (by kernel_rfl) (by kernel_rfl) (by kernel_rfl) (by kernel_rfl) (wanted_not (j := 11) (d := 70) (bb := true) rfl rfl rfl (by simp [eval_put_ne, eval_put_eq, size_put, hts]) (by simp [size_put, hts])) (fun _ _ _ h => h) ?_
                    refine tkS 16 75 (v := .bool false) hS0 rfl rfl (by kernel_rfl) (by kernel_rfl) (by kernel_rfl) (by kernel_rfl) (wanted_none rfl) (fun _ _ _ h => h) (fun U hU => r_pickF (by simp [eval_put_ne, eval_put_eq, size_put, hts]) rfl) ?_
                    refine tkS 17 76 (v := .bool false) hS0 rfl rfl (by kernel_rfl) (by kernel_rfl) (by kernel_rfl) (by kernel_rfl) (wanted_none rfl) (fun _ _ _ h => h) (fun U hU => r_move (by simp [eval_put_ne, eval_put_eq, size_put, hts])) ?_
                    refine tkNS 18 77 hS0 rfl rfl (by kernel_rfl) (by kernel_rfl) (by kernel_rfl) (by kernel_rfl) (wanted_not (j := 17) (d := 76) (bb := true) rfl rfl rfl (by simp [eval_put_ne, eval_put_eq, size_put, hts]) (by simp [size_put, hts])) (fun _ _ _ h => h) ?_
                    refine tkNS 19 78 hS0 rfl rfl (by kernel_rfl) (by kernel_rfl) (by kernel_rfl) (by kernel_rfl) (wanted_not (j := 17) (d := 76) (bb := true) rfl rfl rfl (by simp [eval_put_ne, eval_put_eq, size_put, hts]) (by simp [size_put, hts])) (fun _ _ _ h => h) ?_
                    refine tkNS 20 79 hS0 rfl rfl (by kernel_rfl) (by kernel_rfl) (by kernel_rfl) (by kernel_rfl) (wanted_not (j := 17) (d := 76) (bb := true) rfl rfl rfl (by simp [eval_put_ne, eval_put_eq, size_put, hts]) (by simp [size_put, hts])) (fun _ _ _ h => h) ?_
                    refine tkNS 21 80 hS0 rfl rfl (by kernel_rfl) (by kernel_rfl) (by kernel_rfl) (by kernel_rfl) (wanted_undef (j := 20) (d := 79) (bb := false) rfl rfl rfl (by simp [eval_put_ne, eval_put_eq, size_put, hts]) (by simp [size_put, hts])) (fun _ _ _ h => h) ?_
                    refine tkNS 22 81 hS0 rfl rfl (by kernel_rfl) (by kernel_rfl) (by kernel_rfl) (by kernel_rfl) (wanted_undef (j := 20) (d := 79) (bb := false) rfl rfl rfl (by simp [eval_put_ne, eval_put_eq, size_put, hts]) (by simp [size_put, hts])) (fun _ _ _ h => h) ?_
                    refine tkNS 23 82 hS0 rfl rfl (by kernel_rfl) (by kernel_rfl) (by kernel_rfl) (by kernel_rfl) (wanted_undef (j := 20) (d := 79) (bb := false) rfl rfl rfl (by simp [eval_put_ne, eval_put_eq, size_put, hts]) (by simp [size_put, hts])) (fun _ _ _ h => h) ?_
                    refine tkNS 24 83 hS0 rfl rfl (by kernel_rfl) (by kernel_rfl) (by kernel_rfl) (by kernel_rfl) (wanted_undef (j := 20) (d := 79) (bb := false) rfl rfl rfl (by simp [eval_put_ne, eval_put_eq, size_put, hts]) (by simp [size_put, hts])) (fun _ _ _ h => h) ?_
                    refine tkNS 25 84 hS0 rfl rfl (by kernel_rfl) (by kernel_rfl) (by kernel_rfl) (by kernel_rfl) (wanted_undef (j := 20) (d := 79) (bb := false) rfl rfl rfl (by simp [eval_put_ne, eval_put_eq, size_put, hts]) (by simp [size_put, hts])) (fun _ _ _ h => h) ?_
                    refine tkNS 26 85 hS0 rfl rfl (by kernel_rfl) (by kernel_rfl) (by kernel_rfl) (by kernel_rfl) (wanted_undef (j := 20) (d := 79) (bb := false) rfl rfl rfl (by simp [eval_put_ne, eval_put_eq, size_put, hts]) (by simp [size_put, hts])) (fun _ _ _ h => h) ?_
                    refine tkNS 27 86 hS0 rfl rfl (by kernel_rfl) (by kernel_rfl) (by kernel_rfl) (by kernel_rfl) (wanted_undef (j := 20) (d := 79) (bb := false) rfl rfl rfl (by simp [eval_put_ne, eval_put_eq, size_put, hts]) (by simp [size_put, hts])) (fun _ _ _ h => h) ?_
                    refine tkNS 28 87 hS0 rfl rfl (by kernel_rfl) (by kernel_rfl) (by kernel_rfl) (by kernel_rfl) (wanted_undef (j := 20) (d := 79) (bb := false) rfl rfl rfl (by simp [eval_put_ne, eval_put_eq, size_put, hts]) (by simp [size_put, hts])) (fun _ _ _ h => h) ?_
                    refine tkNS 29 88 hS0 rfl rfl (by kernel_rfl) (by kernel_rfl) (by kernel_rfl) (by kernel_rfl) (wanted_undef (j := 20) (d := 79) (bb := false) rfl rfl rfl (by simp [eval_put_ne, eval_put_eq, size_put, hts]) (by simp [size_put, hts])) (fun _ _ _ h => h) ?_
                    refine tkNS 30 89 hS0 rfl rfl (by kernel_rfl) (by kernel_rfl) (by kernel_rfl) (by kernel_rfl) (wanted_undef (j := 20) (d := 79) (bb := false) rfl rfl rfl (by simp [eval_put_ne, eval_put_eq, size_put, hts]) (by simp [size_put, hts])) (fun _ _ _ h => h) ?_
                    refine tkNS 31 90 hS0 rfl rfl (by kernel_rfl) (by kernel_rfl) (by kernel_rfl) (by kernel_rfl) (wanted_not (j := 17) (d := 76) (bb := true) rfl rfl rfl (by simp [eval_put_ne, eval_put_eq, size_put, hts]) (by simp [size_put, hts])) (fun _ _ _ h => h) ?_
                    refine tkS 32 91 (v := .bool false) hS0 rfl rfl (by kernel_rfl) (by kernel_rfl) (by kernel_rfl) (by kernel_rfl) (wanted_none rfl) (fun _ _ _ h => h) (fun U hU => r_pickF (by simp [eval_put_ne, eval_put_eq, size_put, hts]) rfl) ?_
                    refine tkS 33 3 (v := .bool false) hS0 rfl rfl (by kernel_rfl) (by kernel_rfl) (by kernel_rfl) (by kernel_rfl) (wanted_none rfl) (fun _ _ _ h => h) (fun U hU => r_assign (by simp [eval_put_ne, eval_put_eq, size_put, hts])) ?_
                    refine doneS (by kernel_rfl) ?_
                    have hkr3 := hkr2.trans hkw (fun _ _ h => h)
                    clear c5w
                    clear hS0 hkw hheap
                    rw [hfr.out]
                    clear hfr e1 e3 e4 e5 hts
                    simp only [put_lit, put_none, List.set_cons_succ, List.set_cons_zero]
                    go_wp2
                    go_roundw
                    case rel => exact ⟨false, k + 1, rfl, by simp, by omega, HT.out, hkr3⟩
                    case measure => simp [intOf]; omega
                  | true =>
                    by_cases h0 : 0 ≤ p
                    · have HP0 : Hid (decide (p ≥ 0) = true) := hide (decide_eq_true h0)
                      by_cases h1 : p < 64
                      · have HP1 : Hid (decide (p < 64) = true) := hide (decide_eq_true h1)
                        by_cases h2 : yn = 64
                        · have HP2 : Hid (decide ((yn : Int) = 64) = true) := hide (decide_eq_true (by omega))
                          cases k with
                          | zero =>
                            have HK0 : Hid (decide (((0 : Nat) : Int) = 0) = true) := hide (by decide)
                            have HT : Hid (true = (true && goodFrom (-1) ((l.take (0 + 1)).map Wv.wr))) := hide (by
                              rw [HStep.out]
                              simp only [Bool.true_and, List.take_zero, List.map_nil, goodFrom, lastB]
                              symm
                              exact decide_eq_true ⟨by omega, h0, h1, Hyl.out.symm.trans h2⟩)
                            clear HStep HI h0 h1 h2
                            go_wp2
                            refine hold_frame (p := fun fr => Code.wp Try.prog _ _ fr _) ?_
                            intro fr hfr
                            have e1 : fr.eval (.tmp 1) = .pointer (some ⟨b0, 0, none⟩) := by rw [hfr.out]; rfl
                            have e3 : fr.eval (.tmp 3) = .bool true := by rw [hfr.out]; rfl
                            have e4 : fr.eval (.tmp 4) = .int .i64 ((0 : Nat) : Int) := by rw [hfr.out]; rfl
                            have e5 : fr.eval (.tmp 5) = .pointer (some ⟨b5, 0, none⟩) := by rw [hfr.out]; rfl
                            have hts : fr.tmps.size = 104 := by rw [hfr.out]; rfl
                            refine region_S0 99 Try.mixed ?_
                            intro w0 hkw hheap
                            have c5w := hkw.cells HC5.out (fun h => h)
                            have hS0 : Kept (fun _ => False) w0 w0 := Kept.refl (fun _ => False) w0
                            refine ⟨Kept (fun _ => False) w0, ?_⟩
                            refine tkS 0 59 (v := .bool true) hS0 rfl rfl (by kernel_rfl) (by kernel_rfl) (by kernel_rfl) (by kernel_rfl) (wanted_none rfl) (fun _ _ _ h => h) (fun U hU => r_move (by simp [eval_put_ne, eval_put_eq, size_put, hts, e3])) ?_
                            refine tkS 1 60 (v := .bool true) hS0 rfl rfl (by kernel_rfl) (by kernel_rfl) (by kernel_rfl) (by kernel_rfl) (wanted_none rfl) (fun _ _ _ h => h) (fun U hU => r_move (by simp [eval_put_ne, eval_put_eq, size_put, hts])) ?_
                            refine tkS 2 61 (v := .pointer (some ⟨b5, 0, none⟩)) hS0 rfl rfl (by kernel_rfl) (by kernel_rfl) (by kernel_rfl) (by kernel_rfl) (wanted_some (j := 1) (d := 60) (bb := true) rfl rfl rfl (by simp [eval_put_ne, eval_put_eq, size_put, hts]) (by simp [size_put, hts])) (fun _ _ _ h => h) (fun U hU => r_f40_0 (by simp [eval_put_ne, eval_put_eq, size_put, hts, e5])) ?_
                            refine tkS 3 62 (v := .int .i64 p) hS0 rfl rfl (by kernel_rfl) (by kernel_rfl) (by kernel_rfl) (by kernel_rfl) (wanted_some (j := 1) (d := 60) (bb := true) rfl rfl rfl (by simp [eval_put_ne, eval_put_eq, size_put, hts]) (by simp [size_put, hts])) (fun _ _ _ h => h) (fun U hU => r_ld3 (b := b5) (o := 0) (by simp [eval_put_ne, eval_put_eq, size_put, hts]) (by have := (hU.cells c5w (fun h => h)) 0 _ rfl; simpa using this)) ?_
                            refine tkS 4 63 (v := .bool true) hS0 rfl rfl (by kernel_rfl) (by kernel_rfl) (by kernel_rfl) (by kernel_rfl) (wanted_some (j := 1) (d := 60) (bb := true) rfl rfl rfl (by simp [eval_put_ne, eval_put_eq, size_put, hts]) (by simp [size_put, hts])) (fun _ _ _ h => h) (fun U hU => (r_geq3 (p := p) (q := 0) (by simp [eval_put_ne, eval_put_eq, size_put, hts]) rfl).trans (by rw [HP0.out])) ?_
                            refine tkS 5 64 (v := .bool true) hS0 rfl rfl (by kernel_rfl) (by kernel_rfl) (by kernel_rfl) (by kernel_rfl) (wanted_none rfl) (fun _ _ _ h => h) (fun U hU => r_pick (by simp [eval_put_ne, eval_put_eq, size_put, hts]) (by simp [eval_put_ne, eval_put_eq, size_put, hts])) ?_
                            refine tkS 6 65 (v := .bool true) hS0 rfl rfl (by kernel_rfl) (by kernel_rfl) (by kernel_rfl) (by kernel_rfl) (wanted_none rfl) (fun _ _ _ h => h) (fun U hU => r_move (by simp [eval_put_ne, eval_put_eq, size_put, hts])) ?_
                            refine tkS 7 66 (v := .pointer (some ⟨b5, 0, none⟩)) hS0 rfl rfl (by kernel_rfl) (by kernel_rfl) (by kernel_rfl) (by kernel_rfl) (wanted_some (j := 6) (d := 65) (bb := true) rfl rfl rfl (by simp [eval_put_ne, eval_put_eq, size_put, hts]) (by simp [size_put, hts])) (fun _ _ _ h => h) (fun U hU => r_f40_0 (by simp [eval_put_ne, eval_put_eq, size_put, hts, e5])) ?_
                            refine tkS 8 67 (v := .int .i64 p) hS0 rfl rfl (by kernel_rfl) (by kernel_rfl) (by kernel_rfl) (by kernel_rfl) (wanted_some (j := 6) (d := 65) (bb := true) rfl rfl rfl (by simp [eval_put_ne, eval_put_eq, size_put, hts]) (by simp [size_put, hts])) (fun _ _ _ h => h) (fun U hU => r_ld3 (b := b5) (o := 0) (by simp [eval_put_ne, eval_put_eq, size_put, hts]) (by have := (hU.cells c5w (fun h => h)) 0 _ rfl; simpa using this)) ?_
                            refine tkS 9 68 (v := .bool true) hS0 rfl rfl (by kernel_rfl) (by kernel_rfl) (by kernel_rfl) (by kernel_rfl) (wanted_some (j := 6) (d := 65) (bb := true) rfl rfl rfl (by simp [eval_put_ne, eval_put_eq, size_put, hts]) (by simp [size_put, hts])) (fun _ _ _ h => h) (fun U hU => (r_lss3 (p := p) (q := 64) (by simp [eval_put_ne, eval_put_eq, size_put, hts]) rfl).trans (by rw [HP1.out])) ?_
                            refine tkS 10 69 (v := .bool true) hS0 rfl rfl (by kernel_rfl) (by kernel_rfl) (by kernel_rfl) (by kernel_rfl) (wanted_none rfl) (fun _ _ _ h => h) (fun U hU => r_pick (by simp [eval_put_ne, eval_put_eq, size_put, hts]) (by simp [eval_put_ne, eval_put_eq, size_put, hts])) ?_
                            refine tkS 11 70 (v := .bool true) hS0 rfl rfl (by kernel_rfl) (by kernel_rfl) (by kernel_rfl) (by kernel_rfl) (wanted_none rfl) (fun _ _ _ h => h) (fun U hU => r_move (by simp [eval_put_ne, eval_put_eq, size_put, hts])) ?_
                            refine tkS 12 71 (v := .pointer (some ⟨b5, 1, none⟩)) hS0 rfl rfl (by kernel_rfl) (by kernel_rfl) (by kernel_rfl) (by kernel_rfl) (wanted_some (j := 11) (d := 70) (bb := true) rfl rfl rfl (by simp [eval_put_ne, eval_put_eq, size_put, hts]) (by simp [size_put, hts])) (fun _ _ _ h => h) (fun U hU => r_f40_1 (b := b5) (o := 0) (by simp [eval_put_ne, eval_put_eq, size_put, hts, e5])) ?_
                            refine tkS 13 72 (v := .slice ya yn yc) hS0 rfl rfl (by kernel_rfl) (by kernel_rfl) (by kernel_rfl) (by kernel_rfl) (wanted_some (j := 11) (d := 70) (bb := true) rfl rfl rfl (by simp [eval_put_ne, eval_put_eq, size_put, hts]) (by simp [size_put, hts])) (fun _ _ _ h => h) (fun U hU => r_ld25 (b := b5) (o := 1) (by simp [eval_put_ne, eval_put_eq, size_put, hts]) (by have := (hU.cells c5w (fun h => h)) 1 _ rfl; simpa using this)) ?_
                            refine tkS 14 73 (v := .int .i64 yn) hS0 rfl rfl (by kernel_rfl) (by kernel_rfl) (by kernel_rfl) (by kernel_rfl) (wanted_some (j := 11) (d := 70) (bb := true) rfl rfl rfl (by simp [eval_put_ne, eval_put_eq, size_put, hts]) (by simp [size_put, hts])) (fun _ _ _ h => h) (fun U hU => r_len25 (ao := ya) (c := yc) (by simp [eval_put_ne, eval_put_eq, size_put, hts])) ?_
                            refine tkS 15 74 (v := .bool true) hS0 rfl rfl (by kernel_rfl) (by kernel_rfl) (by kernel_rfl) (by kernel_rfl) (wanted_some (j := 11) (d := 70) (bb := true) rfl rfl rfl (by simp [eval_put_ne, eval_put_eq, size_put, hts]) (by simp [size_put, hts])) (fun _ _ _ h => h) (fun U hU => (r_eql3 (p := (yn : Int)) (q := 64) (by simp [eval_put_ne, eval_put_eq, size_put, hts]) rfl).trans (by rw [HP2.out])) ?_
                            refine tkS 16 75 (v := .bool true) hS0 rfl rfl (by kernel_rfl) (by kernel_rfl) (by kernel_rfl) (by kernel_rfl) (wanted_none rfl) (fun _ _ _ h => h) (fun U hU => r_pick (by simp [eval_put_ne, eval_put_eq, size_put, hts]) (by simp [eval_put_ne, eval_put_eq, size_put, hts])) ?_
                            refine tkS 17 76 (v := .bool true) hS0 rfl rfl (by kernel_rfl) (by kernel_rfl) (by kernel_rfl) (by kernel_rfl) (wanted_none rfl) (fun _ _ _ h => h) (fun U hU => r_move (by simp [eval_put_ne, eval_put_eq, size_put, hts])) ?_
                            refine tkS 18 77 (v := .int .i64 ((0 : Nat) : Int)) hS0 rfl rfl (by kernel_rfl) (by kernel_rfl) (by kernel_rfl) (by kernel_rfl) (wanted_some (j := 17) (d := 76) (bb := true) rfl rfl rfl (by simp [eval_put_ne, eval_put_eq, size_put, hts]) (by simp [size_put, hts])) (fun _ _ _ h => h) (fun U hU => r_move (by simp [eval_put_ne, eval_put_eq, size_put, hts, e4])) ?_
                            refine tkS 19 78 (v := .bool true) hS0 rfl rfl (by kernel_rfl) (by kernel_rfl) (by kernel_rfl) (by kernel_rfl) (wanted_some (j := 17) (d := 76) (bb := true) rfl rfl rfl (by simp [eval_put_ne, eval_put_eq, size_put, hts]) (by simp [size_put, hts])) (fun _ _ _ h => h) (fun U hU => (r_eql3 (p := ((0 : Nat) : Int)) (q := 0) (by simp [eval_put_ne, eval_put_eq, size_put, hts]) rfl).trans (by rw [HK0.out])) ?_
                            refine tkS 20 79 (v := .bool true) hS0 rfl rfl (by kernel_rfl) (by kernel_rfl) (by kernel_rfl) (by kernel_rfl) (wanted_some (j := 17) (d := 76) (bb := true) rfl rfl rfl (by simp [eval_put_ne, eval_put_eq, size_put, hts]) (by simp [size_put, hts])) (fun _ _ _ h => h) (fun U hU => r_move (by simp [eval_put_ne, eval_put_eq, size_put, hts])) ?_
                            refine tkNS 21 80 hS0 rfl rfl (by kernel_rfl) (by kernel_rfl) (by kernel_rfl) (by kernel_rfl) (wanted_not (j := 20) (d := 79) (bb := false) rfl rfl rfl (by simp [eval_put_ne, eval_put_eq, size_put, hts]) (by simp [size_put, hts])) (fun _ _ _ h => h) ?_
                            refine tkNS 22 81 hS0 rfl rfl (by kernel_rfl) (by kernel_rfl) (by kernel_rfl) (by kernel_rfl) (wanted_not (j := 20) (d := 79) (bb := false) rfl rfl rfl (by simp [eval_put_ne, eval_put_eq, size_put, hts]) (by simp [size_put, hts])) (fun _ _ _ h => h) ?_
                            refine tkNS 23 82 hS0 rfl rfl (by kernel_rfl) (by kernel_rfl) (by kernel_rfl) (by kernel_rfl) (wanted_not (j := 20) (d := 79) (bb := false) rfl rfl rfl (by simp [eval_put_ne, eval_put_eq, size_put, hts]) (by simp [size_put, hts])) (fun _ _ _ h => h) ?_
                            refine tkNS 24 83 hS0 rfl rfl (by kernel_rfl) (by kernel_rfl) (by kernel_rfl) (by kernel_rfl) (wanted_not (j := 20) (d := 79) (bb := false) rfl rfl rfl (by simp [eval_put_ne, eval_put_eq, size_put, hts]) (by simp [size_put, hts])) (fun _ _ _ h => h) ?_
                            refine tkNS 25 84 hS0 rfl rfl (by kernel_rfl) (by kernel_rfl) (by kernel_rfl) (by kernel_rfl) (wanted_not (j := 20) (d := 79) (bb := false) rfl rfl rfl (by simp [eval_put_ne, eval_put_eq, size_put, hts]) (by simp [size_put, hts])) (fun _ _ _ h => h) ?_
                            refine tkNS 26 85 hS0 rfl rfl (by kernel_rfl) (by kernel_rfl) (by kernel_rfl) (by kernel_rfl) (wanted_not (j := 20) (d := 79) (bb := false) rfl rfl rfl (by simp [eval_put_ne, eval_put_eq, size_put, hts]) (by simp [size_put, hts])) (fun _ _ _ h => h) ?_
                            refine tkNS 27 86 hS0 rfl rfl (by kernel_rfl) (by kernel_rfl) (by kernel_rfl) (by kernel_rfl) (wanted_not (j := 20) (d := 79) (bb := false) rfl rfl rfl (by simp [eval_put_ne, eval_put_eq, size_put, hts]) (by simp [size_put, hts])) (fun _ _ _ h => h) ?_
                            refine tkNS 28 87 hS0 rfl rfl (by kernel_rfl) (by kernel_rfl) (by kernel_rfl) (by kernel_rfl) (wanted_not (j := 20) (d := 79) (bb := false) rfl rfl rfl (by simp [eval_put_ne, eval_put_eq, size_put, hts]) (by simp [size_put, hts])) (fun _ _ _ h => h) ?_
                            refine tkNS 29 88 hS0 rfl rfl (by kernel_rfl) (by kernel_rfl) (by kernel_rfl) (by kernel_rfl) (wanted_not (j := 20) (d := 79) (bb := false) rfl rfl rfl (by simp [eval_put_ne, eval_put_eq, size_put, hts]) (by simp [size_put, hts])) (fun _ _ _ h => h) ?_
                            refine tkNS 30 89 hS0 rfl rfl (by kernel_rfl) (by kernel_rfl) (by kernel_rfl) (by kernel_rfl) (wanted_not (j := 20) (d := 79) (bb := false) rfl rfl rfl (by simp [eval_put_ne, eval_put_eq, size_put, hts]) (by simp [size_put, hts])) (fun _ _ _ h => h) ?_
                            refine tkS 31 90 (v := .bool true) hS0 rfl rfl (by kernel_rfl) (by kernel_rfl) (by kernel_rfl) (by kernel_rfl) (wanted_some (j := 17) (d := 76) (bb := true) rfl rfl rfl (by simp [eval_put_ne, eval_put_eq, size_put, hts]) (by simp [size_put, hts])) (fun _ _ _ h => h) (fun U hU => r_pick (by simp [eval_put_ne, eval_put_eq, size_put, hts]) rfl) ?_
                            refine tkS 32 91 (v := .bool true) hS0 rfl rfl (by kernel_rfl) (by kernel_rfl) (by kernel_rfl) (by kernel_rfl) (wanted_none rfl) (fun _ _ _ h => h) (fun U hU => r_pick (by simp [eval_put_ne, eval_put_eq, size_put, hts]) (by simp [eval_put_ne, eval_put_eq, size_put, hts])) ?_
                            refine tkS 33 3 (v := .bool true) hS0 rfl rfl (by kernel_rfl) (by kernel_rfl) (by kernel_rfl) (by kernel_rfl) (wanted_none rfl) (fun _ _ _ h => h) (fun U hU => r_assign (by simp [eval_put_ne, eval_put_eq, size_put, hts])) ?_
                            refine doneS (by kernel_rfl) ?_
                            have hkr3 := hkr2.trans hkw (fun _ _ h => h)
                            clear c5w
                            clear hS0 hkw hheap
                            rw [hfr.out]
                            clear hfr e1 e3 e4 e5 hts
                            simp only [put_lit, put_none, List.set_cons_succ, List.set_cons_zero]
                            go_wp2
                            go_roundw
                            case rel => exact ⟨true, 0 + 1, rfl, by simp, by omega, HT.out, hkr3⟩
                            case measure => simp [intOf]; omega
                          | succ j =>
                            have HK0 : Hid (decide (((j + 1 : Nat) : Int) = 0) = false) := hide (decide_eq_false (by omega))
                            have hjl : j < l.length := by omega
                            have hjb : j ≤ 9223372036854775806 := by have := HBnd.out; omega
                            have hprev := HPrev.out j rfl
                            have hcp := HCj4.out j hjl
                            obtain ⟨q, hq⟩ : ∃ q, q = l[j].blk := ⟨_, rfl⟩
                            rw [← hq] at hprev hcp
                            have HCp := hide hcp
                            rw [hprev] at HStep
                            clear hprev hcp hq
                            by_cases h3 : q < p
                            · have HP3 : Hid (decide (q < p) = true) := hide (decide_eq_true h3)
                              have HT : Hid (true = (true && goodFrom (-1) ((l.take (j + 1 + 1)).map Wv.wr))) := hide (by
                                have hi := HI.out
                                simp only [Bool.true_and] at hi
                                rw [HStep.out, ← hi]
                                simp only [Bool.true_and]
                                symm
                                exact decide_eq_true ⟨h3, h0, h1, Hyl.out.symm.trans h2⟩)
                              clear HStep HI h0 h1 h2 h3
                              go_wp2
                              refine hold_frame (p := fun fr => Code.wp Try.prog _ _ fr _) ?_
                              intro fr hfr
                              have e1 : fr.eval (.tmp 1) = .pointer (some ⟨b0, 0, none⟩) := by rw [hfr.out]; rfl
                              have e3 : fr.eval (.tmp 3) = .bool true := by rw [hfr.out]; rfl
                              have e4 : fr.eval (.tmp 4) = .int .i64 ((j + 1 : Nat) : Int) := by rw [hfr.out]; rfl
                              have e5 : fr.eval (.tmp 5) = .pointer (some ⟨b5, 0, none⟩) := by rw [hfr.out]; rfl
                              have hts : fr.tmps.size = 104 := by rw [hfr.out]; rfl
                              refine region_S0 99 Try.mixed ?_
                              intro w0 hkw hheap
                              have c5w := hkw.cells HC5.out (fun h => h)
                              have c0w := hkw.cells HC0.out (fun h => h)
                              have cpw := hkw.cells HCp.out (fun h => h)
                              have hS0 : Kept (fun _ => False) w0 w0 := Kept.refl (fun _ => False) w0
                              refine ⟨Kept (fun _ => False) w0, ?_⟩
                              refine tkS 0 59 (v := .bool true) hS0 rfl rfl (by kernel_rfl) (by kernel_rfl) (by kernel_rfl) (by kernel_rfl) (wanted_none rfl) (fun _ _ _ h => h) (fun U hU => r_move (by simp [eval_put_ne, eval_put_eq, size_put, hts, e3])) ?_
                              refine tkS 1 60 (v := .bool true) hS0 rfl rfl (by kernel_rfl) (by kernel_rfl) (by kernel_rfl) (by kernel_rfl) (wanted_none rfl) (fun _ _ _ h => h) (fun U hU => r_move (by simp [eval_put_ne, eval_put_eq, size_put, hts])) ?_
                              refine tkS 2 61 (v := .pointer (some ⟨b5, 0, none⟩)) hS0 rfl rfl (by kernel_rfl) (by kernel_rfl) (by kernel_rfl) (by kernel_rfl) (wanted_some (j := 1) (d := 60) (bb := true) rfl rfl rfl (by simp [eval_put_ne, eval_put_eq, size_put, hts]) (by simp [size_put, hts])) (fun _ _ _ h => h) (fun U hU => r_f40_0 (by simp [eval_put_ne, eval_put_eq, size_put, hts, e5])) ?_
                              refine tkS 3 62 (v := .int .i64 p) hS0 rfl rfl (by kernel_rfl) (by kernel_rfl) (by kernel_rfl) (by kernel_rfl) (wanted_some (j := 1) (d := 60) (bb := true) rfl rfl rfl (by simp [eval_put_ne, eval_put_eq, size_put, hts]) (by simp [size_put, hts])) (fun _ _ _ h => h) (fun U hU => r_ld3 (b := b5) (o := 0) (by simp [eval_put_ne, eval_put_eq, size_put, hts]) (by have := (hU.cells c5w (fun h => h)) 0 _ rfl; simpa using this)) ?_
                              refine tkS 4 63 (v := .bool true) hS0 rfl rfl (by kernel_rfl) (by kernel_rfl) (by kernel_rfl) (by kernel_rfl) (wanted_some (j := 1) (d := 60) (bb := true) rfl rfl rfl (by simp [eval_put_ne, eval_put_eq, size_put, hts]) (by simp [size_put, hts])) (fun _ _ _ h => h) (fun U hU => (r_geq3 (p := p) (q := 0) (by simp [eval_put_ne, eval_put_eq, size_put, hts]) rfl).trans (by rw [HP0.out])) ?_
                              refine tkS 5 64 (v := .bool true) hS0 rfl rfl (by kernel_rfl) (by kernel_rfl) (by kernel_rfl) (by kernel_rfl) (wanted_none rfl) (fun _ _ _ h => h) (fun U hU => r_pick (by simp [eval_put_ne, eval_put_eq, size_put, hts]) (by simp [eval_put_ne, eval_put_eq, size_put, hts])) ?_
                              refine tkS 6 65 (v := .bool true) hS0 rfl rfl (by kernel_rfl) (by kernel_rfl) (by kernel_rfl) (by kernel_rfl) (wanted_none rfl) (fun _ _ _ h => h) (fun U hU => r_move (by simp [eval_put_ne, eval_put_eq, size_put, hts])) ?_
                              refine tkS 7 66 (v := .pointer (some ⟨b5, 0, none⟩)) hS0 rfl rfl (by kernel_rfl) (by kernel_rfl) (by kernel_rfl) (by kernel_rfl) (wanted_some (j := 6) (d := 65) (bb := true) rfl rfl rfl (by simp [eval_put_ne, eval_put_eq, size_put, hts]) (by simp [size_put, hts])) (fun _ _ _ h => h) (fun U hU => r_f40_0 (by simp [eval_put_ne, eval_put_eq, size_put, hts, e5])) ?_
                              refine tkS 8 67 (v := .int .i64 p) hS0 rfl rfl (by kernel_rfl) (by kernel_rfl) (by kernel_rfl) (by kernel_rfl) (wanted_some (j := 6) (d := 65) (bb := true) rfl rfl rfl (by simp [eval_put_ne, eval_put_eq, size_put, hts]) (by simp [size_put, hts])) (fun _ _ _ h => h) (fun U hU => r_ld3 (b := b5) (o := 0) (by simp [eval_put_ne, eval_put_eq, size_put, hts]) (by have := (hU.cells c5w (fun h => h)) 0 _ rfl; simpa using this)) ?_
                              refine tkS 9 68 (v := .bool true) hS0 rfl rfl (by kernel_rfl) (by kernel_rfl) (by kernel_rfl) (by kernel_rfl) (wanted_some (j := 6) (d := 65) (bb := true) rfl rfl rfl (by simp [eval_put_ne, eval_put_eq, size_put, hts]) (by simp [size_put, hts])) (fun _ _ _ h => h) (fun U hU => (r_lss3 (p := p) (q := 64) (by simp [eval_put_ne, eval_put_eq, size_put, hts]) rfl).trans (by rw [HP1.out])) ?_
                              refine tkS 10 69 (v := .bool true) hS0 rfl rfl (by kernel_rfl) (by kernel_rfl) (by kernel_rfl) (by kernel_rfl) (wanted_none rfl) (fun _ _ _ h => h) (fun U hU => r_pick (by simp [eval_put_ne, eval_put_eq, size_put, hts]) (by simp [eval_put_ne, eval_put_eq, size_put, hts])) ?_
                              refine tkS 11 70 (v := .bool true) hS0 rfl rfl (by kernel_rfl) (by kernel_rfl) (by kernel_rfl) (by kernel_rfl) (wanted_none rfl) (fun _ _ _ h => h) (fun U hU => r_move (by simp [eval_put_ne, eval_put_eq, size_put, hts])) ?_
                              refine tkS 12 71 (v := .pointer (some ⟨b5, 1, none⟩)) hS0 rfl rfl (by kernel_rfl) (by kernel_rfl) (by kernel_rfl) (by kernel_rfl) (wanted_some (j := 11) (d := 70) (bb := true) rfl rfl rfl (by simp [eval_put_ne, eval_put_eq, size_put, hts]) (by simp [size_put, hts])) (fun _ _ _ h => h) (fun U hU => r_f40_1 (b := b5) (o := 0) (by simp [eval_put_ne, eval_put_eq, size_put, hts, e5])) ?_
                              refine tkS 13 72 (v := .slice ya yn yc) hS0 rfl rfl (by kernel_rfl) (by kernel_rfl) (by kernel_rfl) (by kernel_rfl) (wanted_some (j := 11) (d := 70) (bb := true) rfl rfl rfl (by simp [eval_put_ne, eval_put_eq, size_put, hts]) (by simp [size_put, hts])) (fun _ _ _ h => h) (fun U hU => r_ld25 (b := b5) (o := 1) (by simp [eval_put_ne, eval_put_eq, size_put, hts]) (by have := (hU.cells c5w (fun h => h)) 1 _ rfl; simpa using this)) ?_
                              refine tkS 14 73 (v := .int .i64 yn) hS0 rfl rfl (by kernel_rfl) (by kernel_rfl) (by kernel_rfl) (by kernel_rfl) (wanted_some (j := 11) (d := 70) (bb := true) rfl rfl rfl (by simp [eval_put_ne, eval_put_eq, size_put, hts]) (by simp [size_put, hts])) (fun _ _ _ h => h) (fun U hU => r_len25 (ao := ya) (c := yc) (by simp [eval_put_ne, eval_put_eq, size_put, hts])) ?_
                              refine tkS 15 74 (v := .bool true) hS0 rfl rfl (by kernel_rfl) (by kernel_rfl) (by kernel_rfl) (by kernel_rfl) (wanted_some (j := 11) (d := 70) (bb := true) rfl rfl rfl (by simp [eval_put_ne, eval_put_eq, size_put, hts]) (by simp [size_put, hts])) (fun _ _ _ h => h) (fun U hU => (r_eql3 (p := (yn : Int)) (q := 64) (by simp [eval_put_ne, eval_put_eq, size_put, hts]) rfl).trans (by rw [HP2.out])) ?_
                              refine tkS 16 75 (v := .bool true) hS0 rfl rfl (by kernel_rfl) (by kernel_rfl) (by kernel_rfl) (by kernel_rfl) (wanted_none rfl) (fun _ _ _ h => h) (fun U hU => r_pick (by simp [eval_put_ne, eval_put_eq, size_put, hts]) (by simp [eval_put_ne, eval_put_eq, size_put, hts])) ?_
                              refine tkS 17 76 (v := .bool true) hS0 rfl rfl (by kernel_rfl) (by kernel_rfl) (by kernel_rfl) (by kernel_rfl) (wanted_none rfl) (fun _ _ _ h => h) (fun U hU => r_move (by simp [eval_put_ne, eval_put_eq, size_put, hts])) ?_
                              refine tkS 18 77 (v := .int .i64 ((j + 1 : Nat) : Int)) hS0 rfl rfl (by kernel_rfl) (by kernel_rfl) (by kernel_rfl) (by kernel_rfl) (wanted_some (j := 17) (d := 76) (bb := true) rfl rfl rfl (by simp [eval_put_ne, eval_put_eq, size_put, hts]) (by simp [size_put, hts])) (fun _ _ _ h => h) (fun U hU => r_move (by simp [eval_put_ne, eval_put_eq, size_put, hts, e4])) ?_
                              refine tkS 19 78 (v := .bool false) hS0 rfl rfl (by kernel_rfl) (by kernel_rfl) (by kernel_rfl) (by kernel_rfl) (wanted_some (j := 17) (d := 76) (bb := true) rfl rfl rfl (by simp [eval_put_ne, eval_put_eq, size_put, hts]) (by simp [size_put, hts])) (fun _ _ _ h => h) (fun U hU => (r_eql3 (p := ((j + 1 : Nat) : Int)) (q := 0) (by simp [eval_put_ne, eval_put_eq, size_put, hts]) rfl).trans (by rw [HK0.out])) ?_
                              refine tkS 20 79 (v := .bool false) hS0 rfl rfl (by kernel_rfl) (by kernel_rfl) (by kernel_rfl) (by kernel_rfl) (wanted_some (j := 17) (d := 76) (bb := true) rfl rfl rfl (by simp [eval_put_ne, eval_put_eq, size_put, hts]) (by simp [size_put, hts])) (fun _ _ _ h => h) (fun U hU => r_move (by simp [eval_put_ne, eval_put_eq, size_put, hts])) ?_
                              refine tkS 21 80 (v := .pointer (some ⟨b0, 3, none⟩)) hS0 rfl rfl (by kernel_rfl) (by kernel_rfl) (by kernel_rfl) (by kernel_rfl) (wanted_some (j := 20) (d := 79) (bb := false) rfl rfl rfl (by simp [eval_put_ne, eval_put_eq, size_put, hts]) (by simp [size_put, hts])) (fun _ _ _ h => h) (fun U hU => r_f24_3 (by simp [eval_put_ne, eval_put_eq, size_put, hts, e1])) ?_
                              refine tkS 22 81 (v := .slice (some ⟨g, off, none⟩) n xc) hS0 rfl rfl (by kernel_rfl) (by kernel_rfl) (by kernel_rfl) (by kernel_rfl) (wanted_some (j := 20) (d := 79) (bb := false) rfl rfl rfl (by simp [eval_put_ne, eval_put_eq, size_put, hts]) (by simp [size_put, hts])) (fun _ _ _ h => h) (fun U hU => r_ld22 (b := b0) (o := 3) (by simp [eval_put_ne, eval_put_eq, size_put, hts]) (by have := (hU.cells c0w (fun h => h)) 0 _ rfl; simpa using this)) ?_
                              refine tkS 23 82 (v := .int .i64 ((j + 1 : Nat) : Int)) hS0 rfl rfl (by kernel_rfl) (by kernel_rfl) (by kernel_rfl) (by kernel_rfl) (wanted_some (j := 20) (d := 79) (bb := false) rfl rfl rfl (by simp [eval_put_ne, eval_put_eq, size_put, hts]) (by simp [size_put, hts])) (fun _ _ _ h => h) (fun U hU => r_move (by simp [eval_put_ne, eval_put_eq, size_put, hts, e4])) ?_
                              refine tkS 24 83 (v := .int .i64 ((j : Nat) : Int)) hS0 rfl rfl (by kernel_rfl) (by kernel_rfl) (by kernel_rfl) (by kernel_rfl) (wanted_some (j := 20) (d := 79) (bb := false) rfl rfl rfl (by simp [eval_put_ne, eval_put_eq, size_put, hts]) (by simp [size_put, hts])) (fun _ _ _ h => h) (fun U hU => r_subk (m := j) hjb (by simp [eval_put_ne, eval_put_eq, size_put, hts]) rfl) ?_
                              refine tkS 25 84 (v := .pointer (some ⟨g, off + j * 2, none⟩)) hS0 rfl rfl (by kernel_rfl) (by kernel_rfl) (by kernel_rfl) (by kernel_rfl) (wanted_some (j := 20) (d := 79) (bb := false) rfl rfl rfl (by simp [eval_put_ne, eval_put_eq, size_put, hts]) (by simp [size_put, hts])) (fun _ _ _ h => h) (fun U hU => r_ix22 j (b := g) (off := off) (len := n) (cap := xc) (kk := .i64) (by simp [eval_put_ne, eval_put_eq, size_put, hts]) (by simp [eval_put_ne, eval_put_eq, size_put, hts]) (by omega)) ?_
                              refine tkS 26 85 (v := .pointer (some ⟨g, off + j * 2, none⟩)) hS0 rfl rfl (by kernel_rfl) (by kernel_rfl) (by kernel_rfl) (by kernel_rfl) (wanted_some (j := 20) (d := 79) (bb := false) rfl rfl rfl (by simp [eval_put_ne, eval_put_eq, size_put, hts]) (by simp [size_put, hts])) (fun _ _ _ h => h) (fun U hU => r_f40_0 (by simp [eval_put_ne, eval_put_eq, size_put, hts])) ?_
                              refine tkS 27 86 (v := .int .i64 q) hS0 rfl rfl (by kernel_rfl) (by kernel_rfl) (by kernel_rfl) (by kernel_rfl) (wanted_some (j := 20) (d := 79) (bb := false) rfl rfl rfl (by simp [eval_put_ne, eval_put_eq, size_put, hts]) (by simp [size_put, hts])) (fun _ _ _ h => h) (fun U hU => r_ld3 (b := g) (o := off + j * 2) (by simp [eval_put_ne, eval_put_eq, size_put, hts]) (by have := (hU.cells cpw (fun h => h)) 0 _ rfl; simpa using this)) ?_
                              refine tkS 28 87 (v := .pointer (some ⟨b5, 0, none⟩)) hS0 rfl rfl (by kernel_rfl) (by kernel_rfl) (by kernel_rfl) (by kernel_rfl) (wanted_some (j := 20) (d := 79) (bb := false) rfl rfl rfl (by simp [eval_put_ne, eval_put_eq, size_put, hts]) (by simp [size_put, hts])) (fun _ _ _ h => h) (fun U hU => r_f40_0 (by simp [eval_put_ne, eval_put_eq, size_put, hts, e5])) ?_
                              refine tkS 29 88 (v := .int .i64 p) hS0 rfl rfl (by kernel_rfl) (by kernel_rfl) (by kernel_rfl) (by kernel_rfl) (wanted_some (j := 20) (d := 79) (bb := false) rfl rfl rfl (by simp [eval_put_ne, eval_put_eq, size_put, hts]) (by simp [size_put, hts])) (fun _ _ _ h => h) (fun U hU => r_ld3 (b := b5) (o := 0) (by simp [eval_put_ne, eval_put_eq, size_put, hts]) (by have := (hU.cells c5w (fun h => h)) 0 _ rfl; simpa using this)) ?_
                              refine tkS 30 89 (v := .bool true) hS0 rfl rfl (by kernel_rfl) (by kernel_rfl) (by kernel_rfl) (by kernel_rfl) (wanted_some (j := 20) (d := 79) (bb := false) rfl rfl rfl (by simp [eval_put_ne, eval_put_eq, size_put, hts]) (by simp [size_put, hts])) (fun _ _ _ h => h) (fun U hU => (r_lss3 (p := q) (q := p) (by simp [eval_put_ne, eval_put_eq, size_put, hts]) (by simp [eval_put_ne, eval_put_eq, size_put, hts])).trans (by rw [HP3.out])) ?_
                              refine tkS 31 90 (v := .bool true) hS0 rfl rfl (by kernel_rfl) (by kernel_rfl) (by kernel_rfl) (by kernel_rfl) (wanted_some (j := 17) (d := 76) (bb := true) rfl rfl rfl (by simp [eval_put_ne, eval_put_eq, size_put, hts]) (by simp [size_put, hts])) (fun _ _ _ h => h) (fun U hU => r_pickF (by simp [eval_put_ne, eval_put_eq, size_put, hts]) (by simp [eval_put_ne, eval_put_eq, size_put, hts])) ?_
                              refine tkS 32 91 (v := .bool true) hS0 rfl rfl (by kernel_rfl) (by kernel_rfl) (by kernel_rfl) (by kernel_rfl) (wanted_none rfl) (fun _ _ _ h => h) (fun U hU => r_pick (by simp [eval_put_ne, eval_put_eq, size_put, hts]) (by simp [eval_put_ne, eval_put_eq, size_put, hts])) ?_
                              refine tkS 33 3 (v := .bool true) hS0 rfl rfl (by kernel_rfl) (by kernel_rfl) (by kernel_rfl) (by kernel_rfl) (wanted_none rfl) (fun _ _ _ h => h) (fun U hU => r_assign (by simp [eval_put_ne, eval_put_eq, size_put, hts])) ?_
                              refine doneS (by kernel_rfl) ?_
                              have hkr3 := hkr2.trans hkw (fun _ _ h => h)
                              clear c5w c0w cpw
                              clear hS0 hkw hheap
                              rw [hfr.out]
                              clear hfr e1 e3 e4 e5 hts
                              simp only [put_lit, put_none, List.set_cons_succ, List.set_cons_zero]
                              go_wp2
                              go_roundw
                              case rel => exact ⟨true, j + 1 + 1, rfl, by simp, by omega, HT.out, hkr3⟩
                              case measure => simp [intOf]; omega
                            · have HP3 : Hid (decide (q < p) = false) := hide (decide_eq_false h3)
                              have HT : Hid (false = (true && goodFrom (-1) ((l.take (j + 1 + 1)).map Wv.wr))) := hide (by rw [HStep.out]; simp only [Bool.true_and]; symm; rw [Bool.and_eq_false_iff]; right; exact decide_eq_false (fun h => h3 h.1))
                              clear HStep HI h0 h1 h2 h3
                              go_wp2
                              refine hold_frame (p := fun fr => Code.wp Try.prog _ _ fr _) ?_
                              intro fr hfr
                              have e1 : fr.eval (.tmp 1) = .pointer (some ⟨b0, 0, none⟩) := by rw [hfr.out]; rfl
                              have e3 : fr.eval (.tmp 3) = .bool true := by rw [hfr.out]; rfl
                              have e4 : fr.eval (.tmp 4) = .int .i64 ((j + 1 : Nat) : Int) := by rw [hfr.out]; rfl
                              have e5 : fr.eval (.tmp 5) = .pointer (some ⟨b5, 0, none⟩) := by rw [hfr.out]; rfl
                              have hts : fr.tmps.size = 104 := by rw [hfr.out]; rfl
                              refine region_S0 99 Try.mixed ?_
                              intro w0 hkw hheap
                              have c5w := hkw.cells HC5.out (fun h => h)
                              have c0w := hkw.cells HC0.out (fun h => h)
                              have cpw := hkw.cells HCp.out (fun h => h)
                              have hS0 : Kept (fun _ => False) w0 w0 := Kept.refl (fun _ => False) w0
                              refine ⟨Kept (fun _ => False) w0, ?_⟩
                              refine tkS 0 59 (v := .bool true) hS0 rfl rfl (by kernel_rfl) (by kernel_rfl) (by kernel_rfl) (by kernel_rfl) (wanted_none rfl) (fun _ _ _ h => h) (fun U hU => r_move (by simp [eval_put_ne, eval_put_eq, size_put, hts, e3])) ?_
                              refine tkS 1 60 (v := .bool true) hS0 rfl rfl (by kernel_rfl) (by kernel_rfl) (by kernel_rfl) (by kernel_rfl) (wanted_none rfl) (fun _ _ _ h => h) (fun U hU => r_move (by simp [eval_put_ne, eval_put_eq, size_put, hts])) ?_
                              refine tkS 2 61 (v := .pointer (some ⟨b5, 0, none⟩)) hS0 rfl rfl (by kernel_rfl) (by kernel_rfl) (by kernel_rfl) (by kernel_rfl) (wanted_some (j := 1) (d := 60) (bb := true) rfl rfl rfl (by simp [eval_put_ne, eval_put_eq, size_put, hts]) (by simp [size_put, hts])) (fun _ _ _ h => h) (fun U hU => r_f40_0 (by simp [eval_put_ne, eval_put_eq, size_put, hts, e5])) ?_
                              refine tkS 3 62 (v := .int .i64 p) hS0 rfl rfl (by kernel_rfl) (by kernel_rfl) (by kernel_rfl) (by kernel_rfl) (wanted_some (j := 1) (d := 60) (bb := true) rfl rfl rfl (by simp [eval_put_ne, eval_put_eq, size_put, hts]) (by simp [size_put, hts])) (fun _ _ _ h => h) (fun U hU => r_ld3 (b := b5) (o := 0) (by simp [eval_put_ne, eval_put_eq, size_put, hts]) (by have := (hU.cells c5w (fun h => h)) 0 _ rfl; simpa using this)) ?_
                              refine tkS 4 63 (v := .bool true) hS0 rfl rfl (by kernel_rfl) (by kernel_rfl) (by kernel_rfl) (by kernel_rfl) (wanted_some (j := 1) (d := 60) (bb := true) rfl rfl rfl (by simp [eval_put_ne, eval_put_eq, size_put, hts]) (by simp [size_put, hts])) (fun _ _ _ h => h) (fun U hU => (r_geq3 (p := p) (q := 0) (by simp [eval_put_ne, eval_put_eq, size_put, hts]) rfl).trans (by rw [HP0.out])) ?_
                              refine tkS 5 64 (v := .bool true) hS0 rfl rfl (by kernel_rfl) (by kernel_rfl) (by kernel_rfl) (by kernel_rfl) (wanted_none rfl) (fun _ _ _ h => h) (fun U hU => r_pick (by simp [eval_put_ne, eval_put_eq, size_put, hts]) (by simp [eval_put_ne, eval_put_eq, size_put, hts])) ?_
                              refine tkS 6 65 (v := .bool true) hS0 rfl rfl (by kernel_rfl) (by kernel_rfl) (by kernel_rfl) (by kernel_rfl) (wanted_none rfl) (fun _ _ _ h => h) (fun U hU => r_move (by simp [eval_put_ne, eval_put_eq, size_put, hts])) ?_
                              refine tkS 7 66 (v := .pointer (some ⟨b5, 0, none⟩)) hS0 rfl rfl (by kernel_rfl) (by kernel_rfl) (by kernel_rfl) (by kernel_rfl) (wanted_some (j := 6) (d := 65) (bb := true) rfl rfl rfl (by simp [eval_put_ne, eval_put_eq, size_put, hts]) (by simp [size_put, hts])) (fun _ _ _ h => h) (fun U hU => r_f40_0 (by simp [eval_put_ne, eval_put_eq, size_put, hts, e5])) ?_
                              refine tkS 8 67 (v := .int .i64 p) hS0 rfl rfl (by kernel_rfl) (by kernel_rfl) (by kernel_rfl) (by kernel_rfl) (wanted_some (j := 6) (d := 65) (bb := true) rfl rfl rfl (by simp [eval_put_ne, eval_put_eq, size_put, hts]) (by simp [size_put, hts])) (fun _ _ _ h => h) (fun U hU => r_ld3 (b := b5) (o := 0) (by simp [eval_put_ne, eval_put_eq, size_put, hts]) (by have := (hU.cells c5w (fun h => h)) 0 _ rfl; simpa using this)) ?_
                              refine tkS 9 68 (v := .bool true) hS0 rfl rfl (by kernel_rfl) (by kernel_rfl) (by kernel_rfl) (by kernel_rfl) (wanted_some (j := 6) (d := 65) (bb := true) rfl rfl rfl (by simp [eval_put_ne, eval_put_eq, size_put, hts]) (by simp [size_put, hts])) (fun _ _ _ h => h) (fun U hU => (r_lss3 (p := p) (q := 64) (by simp [eval_put_ne, eval_put_eq, size_put, hts]) rfl).trans (by rw [HP1.out])) ?_
                              refine tkS 10 69 (v := .bool true) hS0 rfl rfl (by kernel_rfl) (by kernel_rfl) (by kernel_rfl) (by kernel_rfl) (wanted_none rfl) (fun _ _ _ h => h) (fun U hU => r_pick (by simp [eval_put_ne, eval_put_eq, size_put, hts]) (by simp [eval_put_ne, eval_put_eq, size_put, hts])) ?_
                              refine tkS 11 70 (v := .bool true) hS0 rfl rfl (by kernel_rfl) (by kernel_rfl) (by kernel_rfl) (by kernel_rfl) (wanted_none rfl) (fun _ _ _ h => h) (fun U hU => r_move (by simp [eval_put_ne, eval_put_eq, size_put, hts])) ?_
                              refine tkS 12 71 (v := .pointer (some ⟨b5, 1, none⟩)) hS0 rfl rfl (by kernel_rfl) (by kernel_rfl) (by kernel_rfl) (by kernel_rfl) (wanted_some (j := 11) (d := 70) (bb := true) rfl rfl rfl (by simp [eval_put_ne, eval_put_eq, size_put, hts]) (by simp [size_put, hts])) (fun _ _ _ h => h) (fun U hU => r_f40_1 (b := b5) (o := 0) (by simp [eval_put_ne, eval_put_eq, size_put, hts, e5])) ?_
                              refine tkS 13 72 (v := .slice ya yn yc) hS0 rfl rfl (by kernel_rfl) (by kernel_rfl) (by kernel_rfl) (by kernel_rfl) (wanted_some (j := 11) (d := 70) (bb := true) rfl rfl rfl (by simp [eval_put_ne, eval_put_eq, size_put, hts]) (by simp [size_put, hts])) (fun _ _ _ h => h) (fun U hU => r_ld25 (b := b5) (o := 1) (by simp [eval_put_ne, eval_put_eq, size_put, hts]) (by have := (hU.cells c5w (fun h => h)) 1 _ rfl; simpa using this)) ?_
                              refine tkS 14 73 (v := .int .i64 yn) hS0 rfl rfl (by kernel_rfl) (by kernel_rfl) (by kernel_rfl) (by kernel_rfl) (wanted_some (j := 11) (d := 70) (bb := true) rfl rfl rfl (by simp [eval_put_ne, eval_put_eq, size_put, hts]) (by simp [size_put, hts])) (fun _ _ _ h => h) (fun U hU => r_len25 (ao := ya) (c := yc) (by simp [eval_put_ne, eval_put_eq, size_put, hts])) ?_
                              refine tkS 15 74 (v := .bool true) hS0 rfl rfl (by kernel_rfl) (by kernel_rfl) (by kernel_rfl) (by kernel_rfl) (wanted_some (j := 11) (d := 70) (bb := true) rfl rfl rfl (by simp [eval_put_ne, eval_put_eq, size_put, hts]) (by simp [size_put, hts])) (fun _ _ _ h => h) (fun U hU => (r_eql3 (p := (yn : Int)) (q := 64) (by simp [eval_put_ne, eval_put_eq, size_put, hts]) rfl).trans (by rw [HP2.out])) ?_
                              refine tkS 16 75 (v := .bool true) hS0 rfl rfl (by kernel_rfl) (by kernel_rfl) (by kernel_rfl) (by kernel_rfl) (wanted_none rfl) (fun _ _ _ h => h) (fun U hU => r_pick (by simp [eval_put_ne, eval_put_eq, size_put, hts]) (by simp [eval_put_ne, eval_put_eq, size_put, hts])) ?_
                              refine tkS 17 76 (v := .bool true) hS0 rfl rfl (by kernel_rfl) (by kernel_rfl) (by kernel_rfl) (by kernel_rfl) (wanted_none rfl) (fun _ _ _ h => h) (fun U hU => r_move (by simp [eval_put_ne, eval_put_eq, size_put, hts])) ?_
                              refine tkS 18 77 (v := .int .i64 ((j + 1 : Nat) : Int)) hS0 rfl rfl (by kernel_rfl) (by kernel_rfl) (by kernel_rfl) (by kernel_rfl) (wanted_some (j := 17) (d := 76) (bb := true) rfl rfl rfl (by simp [eval_put_ne, eval_put_eq, size_put, hts]) (by simp [size_put, hts])) (fun _ _ _ h => h) (fun U hU => r_move (by simp [eval_put_ne, eval_put_eq, size_put, hts, e4])) ?_
                              refine tkS 19 78 (v := .bool false) hS0 rfl rfl (by kernel_rfl) (by kernel_rfl) (by kernel_rfl) (by kernel_rfl) (wanted_some (j := 17) (d := 76) (bb := true) rfl rfl rfl (by simp [eval_put_ne, eval_put_eq, size_put, hts]) (by simp [size_put, hts])) (fun _ _ _ h => h) (fun U hU => (r_eql3 (p := ((j + 1 : Nat) : Int)) (q := 0) (by simp [eval_put_ne, eval_put_eq, size_put, hts]) rfl).trans (by rw [HK0.out])) ?_
                              refine tkS 20 79 (v := .bool false) hS0 rfl rfl (by kernel_rfl) (by kernel_rfl) (by kernel_rfl) (by kernel_rfl) (wanted_some (j := 17) (d := 76) (bb := true) rfl rfl rfl (by simp [eval_put_ne, eval_put_eq, size_put, hts]) (by simp [size_put, hts])) (fun _ _ _ h => h) (fun U hU => r_move (by simp [eval_put_ne, eval_put_eq, size_put, hts])) ?_
                              refine tkS 21 80 (v := .pointer (some ⟨b0, 3, none⟩)) hS0 rfl rfl (by kernel_rfl) (by kernel_rfl) (by kernel_rfl) (by kernel_rfl) (wanted_some (j := 20) (d := 79) (bb := false) rfl rfl rfl (by simp [eval_put_ne, eval_put_eq, size_put, hts]) (by simp [size_put, hts])) (fun _ _ _ h => h) (fun U hU => r_f24_3 (by simp [eval_put_ne, eval_put_eq, size_put, hts, e1])) ?_
                              refine tkS 22 81 (v := .slice (some ⟨g, off, none⟩) n xc) hS0 rfl rfl (by kernel_rfl) (by kernel_rfl) (by kernel_rfl) (by kernel_rfl) (wanted_some (j := 20) (d := 79) (bb := false) rfl rfl rfl (by simp [eval_put_ne, eval_put_eq, size_put, hts]) (by simp [size_put, hts])) (fun _ _ _ h => h) (fun U hU => r_ld22 (b := b0) (o := 3) (by simp [eval_put_ne, eval_put_eq, size_put, hts]) (by have := (hU.cells c0w (fun h => h)) 0 _ rfl; simpa using this)) ?_
                              refine tkS 23 82 (v := .int .i64 ((j + 1 : Nat) : Int)) hS0 rfl rfl (by kernel_rfl) (by kernel_rfl) (by kernel_rfl) (by kernel_rfl) (wanted_some (j := 20) (d := 79) (bb := false) rfl rfl rfl (by simp [eval_put_ne, eval_put_eq, size_put, hts]) (by simp [size_put, hts])) (fun _ _ _ h => h) (fun U hU => r_move (by simp [eval_put_ne, eval_put_eq, size_put, hts, e4])) ?_
                              refine tkS 24 83 (v := .int .i64 ((j : Nat) : Int)) hS0 rfl rfl (by kernel_rfl) (by kernel_rfl) (by kernel_rfl) (by kernel_rfl) (wanted_some (j := 20) (d := 79) (bb := false) rfl rfl rfl (by simp [eval_put_ne, eval_put_eq, size_put, hts]) (by simp [size_put, hts])) (fun _ _ _ h => h) (fun U hU => r_subk (m := j) hjb (by simp [eval_put_ne, eval_put_eq, size_put, hts]) rfl) ?_
                              refine tkS 25 84 (v := .pointer (some ⟨g, off + j * 2, none⟩)) hS0 rfl rfl (by kernel_rfl) (by kernel_rfl) (by kernel_rfl) (by kernel_rfl) (wanted_some (j := 20) (d := 79) (bb := false) rfl rfl rfl (by simp [eval_put_ne, eval_put_eq, size_put, hts]) (by simp [size_put, hts])) (fun _ _ _ h => h) (fun U hU => r_ix22 j (b := g) (off := off) (len := n) (cap := xc) (kk := .i64) (by simp [eval_put_ne, eval_put_eq, size_put, hts]) (by simp [eval_put_ne, eval_put_eq, size_put, hts]) (by omega)) ?_
                              refine tkS 26 85 (v := .pointer (some ⟨g, off + j * 2, none⟩)) hS0 rfl rfl (by kernel_rfl) (by kernel_rfl) (by kernel_rfl) (by kernel_rfl) (wanted_some (j := 20) (d := 79) (bb := false) rfl rfl rfl (by simp [eval_put_ne, eval_put_eq, size_put, hts]) (by simp [size_put, hts])) (fun _ _ _ h => h) (fun U hU => r_f40_0 (by simp [eval_put_ne, eval_put_eq, size_put, hts])) ?_
                              refine tkS 27 86 (v := .int .i64 q) hS0 rfl rfl (by kernel_rfl) (by kernel_rfl) (by kernel_rfl) (by kernel_rfl) (wanted_some (j := 20) (d := 79) (bb := false) rfl rfl rfl (by simp [eval_put_ne, eval_put_eq, size_put, hts]) (by simp [size_put, hts])) (fun _ _ _ h => h) (fun U hU => r_ld3 (b := g) (o := off + j * 2) (by simp [eval_put_ne, eval_put_eq, size_put, hts]) (by have := (hU.cells cpw (fun h => h)) 0 _ rfl; simpa using this)) ?_
                              refine tkS 28 87 (v := .pointer (some ⟨b5, 0, none⟩)) hS0 rfl rfl (by kernel_rfl) (by kernel_rfl) (by kernel_rfl) (by kernel_rfl) (wanted_some (j := 20) (d := 79) (bb := false) rfl rfl rfl (by simp [eval_put_ne, eval_put_eq, size_put, hts]) (by simp [size_put, hts])) (fun _ _ _ h => h) (fun U hU => r_f40_0 (by simp [eval_put_ne, eval_put_eq, size_put, hts, e5])) ?_
                              refine tkS 29 88 (v := .int .i64 p) hS0 rfl rfl (by kernel_rfl) (by kernel_rfl) (by kernel_rfl) (by kernel_rfl) (wanted_some (j := 20) (d := 79) (bb := false) rfl rfl rfl (by simp [eval_put_ne, eval_put_eq, size_put, hts]) (by simp [size_put, hts])) (fun _ _ _ h => h) (fun U hU => r_ld3 (b := b5) (o := 0) (by simp [eval_put_ne, eval_put_eq, size_put, hts]) (by have := (hU.cells c5w (fun h => h)) 0 _ rfl; simpa using this)) ?_
                              refine tkS 30 89 (v := .bool false) hS0 rfl rfl (by kernel_rfl) (by kernel_rfl) (by kernel_rfl) (by kernel_rfl) (wanted_some (j := 20) (d := 79) (bb := false) rfl rfl rfl (by simp [eval_put_ne, eval_put_eq, size_put, hts]) (by simp [size_put, hts])) (fun _ _ _ h => h) (fun U hU => (r_lss3 (p := q) (q := p) (by simp [eval_put_ne, eval_put_eq, size_put, hts]) (by simp [eval_put_ne, eval_put_eq, size_put, hts])).trans (by rw [HP3.out])) ?_
                              refine tkS 31 90 (v := .bool false) hS0 rfl rfl (by kernel_rfl) (by kernel_rfl) (by kernel_rfl) (by kernel_rfl) (wanted_some (j := 17) (d := 76) (bb := true) rfl rfl rfl (by simp [eval_put_ne, eval_put_eq, size_put, hts]) (by simp [size_put, hts])) (fun _ _ _ h => h) (fun U hU => r_pickF (by simp [eval_put_ne, eval_put_eq, size_put, hts]) (by simp [eval_put_ne, eval_put_eq, size_put, hts])) ?_
                              refine tkS 32 91 (v := .bool false) hS0 rfl rfl (by kernel_rfl) (by kernel_rfl) (by kernel_rfl) (by kernel_rfl) (wanted_none rfl) (fun _ _ _ h => h) (fun U hU => r_pick (by simp [eval_put_ne, eval_put_eq, size_put, hts]) (by simp [eval_put_ne, eval_put_eq, size_put, hts])) ?_
                              refine tkS 33 3 (v := .bool false) hS0 rfl rfl (by kernel_rfl) (by kernel_rfl) (by kernel_rfl) (by kernel_rfl) (wanted_none rfl) (fun _ _ _ h => h) (fun U hU => r_assign (by simp [eval_put_ne, eval_put_eq, size_put, hts])) ?_
                              refine doneS (by kernel_rfl) ?_
                              have hkr3 := hkr2.trans hkw (fun _ _ h => h)
                              clear c5w c0w cpw
                              clear hS0 hkw hheap
                              rw [hfr.out]
                              clear hfr e1 e3 e4 e5 hts
                              simp only [put_lit, put_none, List.set_cons_succ, List.set_cons_zero]
                              go_wp2
                              go_roundw
                              case rel => exact ⟨false, j + 1 + 1, rfl, by simp, by omega, HT.out, hkr3⟩
                              case measure => simp [intOf]; omega
                        · have HP2 : Hid (decide ((yn : Int) = 64) = false) := hide (decide_eq_false (by omega))
                          have HT : Hid (false = (true && goodFrom (-1) ((l.take (k + 1)).map Wv.wr))) := hide (by rw [HStep.out]; simp only [Bool.true_and]; symm; rw [Bool.and_eq_false_iff]; right; exact decide_eq_false (fun h => h2 (Hyl.out.trans h.2.2.2)))
                          clear HStep HI
                          clear h0 h1 h2
                          go_wp2
                          refine hold_frame (p := fun fr => Code.wp Try.prog _ _ fr _) ?_
                          intro fr hfr
                          have e1 : fr.eval (.tmp 1) = .pointer (some ⟨b0, 0, none⟩) := by rw [hfr.out]; rfl
                          have e3 : fr.eval (.tmp 3) = .bool true := by rw [hfr.out]; rfl
                          have e4 : fr.eval (.tmp 4) = .int .i64 ((k : Nat) : Int) := by rw [hfr.out]; rfl
                          have e5 : fr.eval (.tmp 5) = .pointer (some ⟨b5, 0, none⟩) := by rw [hfr.out]; rfl
                          have hts : fr.tmps.size = 104 := by rw [hfr.out]; rfl
                          refine region_S0 99 Try.mixed ?_
                          intro w0 hkw hheap
                          have c5w := hkw.cells HC5.out (fun h => h)
                          have hS0 : Kept (fun _ => False) w0 w0 := Kept.refl (fun _ => False) w0
                          refine ⟨Kept (fun _ => False) w0, ?_⟩
                          refine tkS 0 59 (v := .bool true) hS0 rfl rfl (by kernel_rfl) (by kernel_rfl) (by kernel_rfl) (by kernel_rfl) (wanted_none rfl) (fun _ _ _ h => h) (fun U hU => r_move (by simp [eval_put_ne, eval_put_eq, size_put, hts, e3])) ?_
                          refine tkS 1 60 (v := .bool true) hS0 rfl rfl (by kernel_rfl) (by kernel_rfl) (by kernel_rfl) (by kernel_rfl) (wanted_none rfl) (fun _ _ _ h => h) (fun U hU => r_move (by simp [eval_put_ne, eval_put_eq, size_put, hts])) ?_
                          refine tkS 2 61 (v := .pointer (some ⟨b5, 0, none⟩)) hS0 rfl rfl (by kernel_rfl) (by kernel_rfl) (by kernel_rfl) (by kernel_rfl) (wanted_some (j := 1) (d := 60) (bb := true) rfl rfl rfl (by simp [eval_put_ne, eval_put_eq, size_put, hts]) (by simp [size_put, hts])) (fun _ _ _ h => h) (fun U hU => r_f40_0 (by simp [eval_put_ne, eval_put_eq, size_put, hts, e5])) ?_
                          refine tkS 3 62 (v := .int .i64 p) hS0 rfl rfl (by kernel_rfl) (by kernel_rfl) (by kernel_rfl) (by kernel_rfl) (wanted_some (j := 1) (d := 60) (bb := true) rfl rfl rfl (by simp [eval_put_ne, eval_put_eq, size_put, hts]) (by simp [size_put, hts])) (fun _ _ _ h => h) (fun U hU => r_ld3 (b := b5) (o := 0) (by simp [eval_put_ne, eval_put_eq, size_put, hts]) (by have := (hU.cells c5w (fun h => h)) 0 _ rfl; simpa using this)) ?_
                          refine tkS 4 63 (v := .bool true) hS0 rfl rfl (by kernel_rfl) (by kernel_rfl) (by kernel_rfl) (by kernel_rfl) (wanted_some (j := 1) (d := 60) (bb := true) rfl rfl rfl (by simp [eval_put_ne, eval_put_eq, size_put, hts]) (by simp [size_put, hts])) (fun _ _ _ h => h) (fun U hU => (r_geq3 (p := p) (q := 0) (by simp [eval_put_ne, eval_put_eq, size_put, hts]) rfl).trans (by rw [HP0.out])) ?_
                          refine tkS 5 64 (v := .bool true) hS0 rfl rfl (by kernel_rfl) (by kernel_rfl) (by kernel_rfl) (by kernel_rfl) (wanted_none rfl) (fun _ _ _ h => h) (fun U hU => r_pick (by simp [eval_put_ne, eval_put_eq, size_put, hts]) (by simp [eval_put_ne, eval_put_eq, size_put, hts])) ?_
                          refine tkS 6 65 (v := .bool true) hS0 rfl rfl (by kernel_rfl) (by kernel_rfl) (by kernel_rfl) (by kernel_rfl) (wanted_none rfl) (fun _ _ _ h => h) (fun U hU => r_move (by simp [eval_put_ne, eval_put_eq, size_put, hts])) ?_
                          refine tkS 7 66 (v := .pointer (some ⟨b5, 0, none⟩)) hS0 rfl rfl (by kernel_rfl) (by kernel_rfl) (by kernel_rfl) (by kernel_rfl) (wanted_some (j := 6) (d := 65) (bb := true) rfl rfl rfl (by simp [eval_put_ne, eval_put_eq, size_put, hts]) (by simp [size_put, hts])) (fun _ _ _ h => h) (fun U hU => r_f40_0 (by simp [eval_put_ne, eval_put_eq, size_put, hts, e5])) ?_
                          refine tkS 8 67 (v := .int .i64 p) hS0 rfl rfl (by kernel_rfl) (by kernel_rfl) (by kernel_rfl) (by kernel_rfl) (wanted_some (j := 6) (d := 65) (bb := true) rfl rfl rfl (by simp [eval_put_ne, eval_put_eq, size_put, hts]) (by simp [size_put, hts])) (fun _ _ _ h => h) (fun U hU => r_ld3 (b := b5) (o := 0) (by simp [eval_put_ne, eval_put_eq, size_put, hts]) (by have := (hU.cells c5w (fun h => h)) 0 _ rfl; simpa using this)) ?_
                          refine tkS 9 68 (v := .bool true) hS0 rfl rfl (by kernel_rfl) (by kernel_rfl) (by kernel_rfl) (by kernel_rfl) (wanted_some (j := 6) (d := 65) (bb := true) rfl rfl rfl (by simp [eval_put_ne, eval_put_eq, size_put, hts]) (by simp [size_put, hts])) (fun _ _ _ h => h) (fun U hU => (r_lss3 (p := p) (q := 64) (by simp [eval_put_ne, eval_put_eq, size_put, hts]) rfl).trans (by rw [HP1.out])) ?_
                          refine tkS 10 69 (v := .bool true) hS0 rfl rfl (by kernel_rfl) (by kernel_rfl) (by kernel_rfl) (by kernel_rfl) (wanted_none rfl) (fun _ _ _ h => h) (fun U hU => r_pick (by simp [eval_put_ne, eval_put_eq, size_put, hts]) (by simp [eval_put_ne, eval_put_eq, size_put, hts])) ?_
                          refine tkS 11 70 (v := .bool true) hS0 rfl rfl (by kernel_rfl) (by kernel_rfl) (by kernel_rfl) (by kernel_rfl) (wanted_none rfl) (fun _ _ _ h => h) (fun U hU => r_move (by simp [eval_put_ne, eval_put_eq, size_put, hts])) ?_
                          refine tkS 12 71 (v := .pointer (some ⟨b5, 1, none⟩)) hS0 rfl rfl (by kernel_rfl) (by kernel_rfl) (by kernel_rfl) (by kernel_rfl) (wanted_some (j := 11) (d := 70) (bb := true) rfl rfl rfl (by simp [eval_put_ne, eval_put_eq, size_put, hts]) (by simp [size_put, hts])) (fun _ _ _ h => h) (fun U hU => r_f40_1 (b := b5) (o := 0) (by simp [eval_put_ne, eval_put_eq, size_put, hts, e5])) ?_
                          refine tkS 13 72 (v := .slice ya yn yc) hS0 rfl rfl (by kernel_rfl) (by kernel_rfl) (by kernel_rfl) (by kernel_rfl) (wanted_some (j := 11) (d := 70) (bb := true) rfl rfl rfl (by simp [eval_put_ne, eval_put_eq, size_put, hts]) (by simp [size_put, hts])) (fun _ _ _ h => h) (fun U hU => r_ld25 (b := b5) (o := 1) (by simp [eval_put_ne, eval_put_eq, size_put, hts]) (by have := (hU.cells c5w (fun h => h)) 1 _ rfl; simpa using this)) ?_
                          refine tkS 14 73 (v := .int .i64 yn) hS0 rfl rfl (by kernel_rfl) (by kernel_rfl) (by kernel_rfl) (by kernel_rfl) (wanted_some (j := 11) (d := 70) (bb := true) rfl rfl rfl (by simp [eval_put_ne, eval_put_eq, size_put, hts]) (by simp [size_put, hts])) (fun _ _ _ h => h) (fun U hU => r_len25 (ao := ya) (c := yc) (by simp [eval_put_ne, eval_put_eq, size_put, hts])) ?_
                          refine tkS 15 74 (v := .bool false) hS0 rfl rfl (by kernel_rfl) (by kernel_rfl) (by kernel_rfl) (by kernel_rfl) (wanted_some (j := 11) (d := 70) (bb := true) rfl rfl rfl (by simp [eval_put_ne, eval_put_eq, size_put, hts]) (by simp [size_put, hts])) (fun _ _ _ h => h) (fun U hU => (r_eql3 (p := (yn : Int)) (q := 64) (by simp [eval_put_ne, eval_put_eq, size_put, hts]) rfl).trans (by rw [HP2.out])) ?_
                          refine tkS 16 75 (v := .bool false) hS0 rfl rfl (by kernel_rfl) (by kernel_rfl) (by kernel_rfl) (by kernel_rfl) (wanted_none rfl) (fun _ _ _ h => h) (fun U hU => r_pick (by simp [eval_put_ne, eval_put_eq, size_put, hts]) (by simp [eval_put_ne, eval_put_eq, size_put, hts])) ?_
                          refine tkS 17 76 (v := .bool false) hS0 rfl rfl (by kernel_rfl) (by kernel_rfl) (by kernel_rfl) (by kernel_rfl) (wanted_none rfl) (fun _ _ _ h => h) (fun U hU => r_move (by simp [eval_put_ne, eval_put_eq, size_put, hts])) ?_
                          refine tkNS 18 77 hS0 rfl rfl (by kernel_rfl) (by kernel_rfl) (by kernel_rfl) (by kernel_rfl) (wanted_not (j := 17) (d := 76) (bb := true) rfl rfl rfl (by simp [eval_put_ne, eval_put_eq, size_put, hts]) (by simp [size_put, hts])) (fun _ _ _ h => h) ?_
                          refine tkNS 19 78 hS0 rfl rfl (by kernel_rfl) (by kernel_rfl) (by kernel_rfl) (by kernel_rfl) (wanted_not (j := 17) (d := 76) (bb := true) rfl rfl rfl (by simp [eval_put_ne, eval_put_eq, size_put, hts]) (by simp [size_put, hts])) (fun _ _ _ h => h) ?_
                          refine tkNS 20 79 hS0 rfl rfl (by kernel_rfl) (by kernel_rfl) (by kernel_rfl) (by kernel_rfl) (wanted_not (j := 17) (d := 76) (bb := true) rfl rfl rfl (by simp [eval_put_ne, eval_put_eq, size_put, hts]) (by simp [size_put, hts])) (fun _ _ _ h => h) ?_
                          refine tkNS 21 80 hS0 rfl rfl (by kernel_rfl) (by kernel_rfl) (by kernel_rfl) (by kernel_rfl) (wanted_undef (j := 20) (d := 79) (bb := false) rfl rfl rfl (by simp [eval_put_ne, eval_put_eq, size_put, hts]) (by simp [size_put, hts])) (fun _ _ _ h => h) ?_
                          refine tkNS 22 81 hS0 rfl rfl (by kernel_rfl) (by kernel_rfl) (by kernel_rfl) (by kernel_rfl) (wanted_undef (j := 20) (d := 79) (bb := false) rfl rfl rfl (by simp [eval_put_ne, eval_put_eq, size_put, hts]) (by simp [size_put, hts])) (fun _ _ _ h => h) ?_
                          refine tkNS 23 82 hS0 rfl rfl (by kernel_rfl) (by kernel_rfl) (by kernel_rfl) (by kernel_rfl) (wanted_undef (j := 20) (d := 79) (bb := false) rfl rfl rfl (by simp [eval_put_ne, eval_put_eq, size_put, hts]) (by simp [size_put, hts])) (fun _ _ _ h => h) ?_
                          refine tkNS 24 83 hS0 rfl rfl (by kernel_rfl) (by kernel_rfl) (by kernel_rfl) (by kernel_rfl) (wanted_undef (j := 20) (d := 79) (bb := false) rfl rfl rfl (by simp [eval_put_ne, eval_put_eq, size_put, hts]) (by simp [size_put, hts])) (fun _ _ _ h => h) ?_
                          refine tkNS 25 84 hS0 rfl rfl (by kernel_rfl) (by kernel_rfl) (by kernel_rfl) (by kernel_rfl) (wanted_undef (j := 20) (d := 79) (bb := false) rfl rfl rfl (by simp [eval_put_ne, eval_put_eq, size_put, hts]) (by simp [size_put, hts])) (fun _ _ _ h => h) ?_
                          refine tkNS 26 85 hS0 rfl rfl (by kernel_rfl) (by kernel_rfl) (by kernel_rfl) (by kernel_rfl) (wanted_undef (j := 20) (d := 79) (bb := false) rfl rfl rfl (by simp [eval_put_ne, eval_put_eq, size_put, hts]) (by simp [size_put, hts])) (fun _ _ _ h => h) ?_
                          refine tkNS 27 86 hS0 rfl rfl (by kernel_rfl) (by kernel_rfl) (by kernel_rfl) (by kernel_rfl) (wanted_undef (j := 20) (d := 79) (bb := false) rfl rfl rfl (by simp [eval_put_ne, eval_put_eq, size_put, hts]) (by simp [size_put, hts])) (fun _ _ _ h => h) ?_
                          refine tkNS 28 87 hS0 rfl rfl (by kernel_rfl) (by kernel_rfl) (by kernel_rfl) (by kernel_rfl) (wanted_undef (j := 20) (d := 79) (bb := false) rfl rfl rfl (by simp [eval_put_ne, eval_put_eq, size_put, hts]) (by simp [size_put, hts])) (fun _ _ _ h => h) ?_
                          refine tkNS 29 88 hS0 rfl rfl (by kernel_rfl) (by kernel_rfl) (by kernel_rfl) (by kernel_rfl) (wanted_undef (j := 20) (d := 79) (bb := false) rfl rfl rfl (by simp [eval_put_ne, eval_put_eq, size_put, hts]) (by simp [size_put, hts])) (fun _ _ _ h => h) ?_
                          refine tkNS 30 89 hS0 rfl rfl (by kernel_rfl) (by kernel_rfl) (by kernel_rfl) (by kernel_rfl) (wanted_undef (j := 20) (d := 79) (bb := false) rfl rfl rfl (by simp [eval_put_ne, eval_put_eq, size_put, hts]) (by simp [size_put, hts])) (fun _ _ _ h => h) ?_
                          refine tkNS 31 90 hS0 rfl rfl (by kernel_rfl) (by kernel_rfl) (by kernel_rfl) (by kernel_rfl) (wanted_not (j := 17) (d := 76) (bb := true) rfl rfl rfl (by simp [eval_put_ne, eval_put_eq, size_put, hts]) (by simp [size_put, hts])) (fun _ _ _ h => h) ?_
                          refine tkS 32 91 (v := .bool false) hS0 rfl rfl (by kernel_rfl) (by kernel_rfl) (by kernel_rfl) (by kernel_rfl) (wanted_none rfl) (fun _ _ _ h => h) (fun U hU => r_pickF (by simp [eval_put_ne, eval_put_eq, size_put, hts]) rfl) ?_
                          refine tkS 33 3 (v := .bool false) hS0 rfl rfl (by kernel_rfl) (by kernel_rfl) (by kernel_rfl) (by kernel_rfl) (wanted_none rfl) (fun _ _ _ h => h) (fun U hU => r_assign (by simp [eval_put_ne, eval_put_eq, size_put, hts])) ?_
                          refine doneS (by kernel_rfl) ?_
                          have hkr3 := hkr2.trans hkw (fun _ _ h => h)
                          clear c5w
                          clear hS0 hkw hheap
                          rw [hfr.out]
                          clear hfr e1 e3 e4 e5 hts
                          simp only [put_lit, put_none, List.set_cons_succ, List.set_cons_zero]
                          go_wp2
                          go_roundw
                          case rel => exact ⟨false, k + 1, rfl, by simp, by omega, HT.out, hkr3⟩
                          case measure => simp [intOf]; omega
                      · have HP1 : Hid (decide (p < 64) = false) := hide (decide_eq_false h1)
                        have HT : Hid (false = (true && goodFrom (-1) ((l.take (k + 1)).map Wv.wr))) := hide (by rw [HStep.out]; simp only [Bool.true_and]; symm; rw [Bool.and_eq_false_iff]; right; exact decide_eq_false (fun h => h1 h.2.2.1))
                        clear HStep HI
                        clear h0 h1
                        go_wp2
                        refine hold_frame (p := fun fr => Code.wp Try.prog _ _ fr _) ?_
                        intro fr hfr
                        have e1 : fr.eval (.tmp 1) = .pointer (some ⟨b0, 0, none⟩) := by rw [hfr.out]; rfl
                        have e3 : fr.eval (.tmp 3) = .bool true := by rw [hfr.out]; rfl
                        have e4 : fr.eval (.tmp 4) = .int .i64 ((k : Nat) : Int) := by rw [hfr.out]; rfl
                        have e5 : fr.eval (.tmp 5) = .pointer (some ⟨b5, 0, none⟩) := by rw [hfr.out]; rfl
                        have hts : fr.tmps.size = 104 := by rw [hfr.out]; rfl
                        refine region_S0 99 Try.mixed ?_
                        intro w0 hkw hheap
                        have c5w := hkw.cells HC5.out (fun h => h)
                        have hS0 : Kept (fun _ => False) w0 w0 := Kept.refl (fun _ => False) w0
                        refine ⟨Kept (fun _ => False) w0, ?_⟩
                        refine tkS 0 59 (v := .bool true) hS0 rfl rfl (by kernel_rfl) (by kernel_rfl) (by kernel_rfl) (by kernel_rfl) (wanted_none rfl) (fun _ _ _ h => h) (fun U hU => r_move (by simp [eval_put_ne, eval_put_eq, size_put, hts, e3])) ?_
                        refine tkS 1 60 (v := .bool true) hS0 rfl rfl (by kernel_rfl) (by kernel_rfl) (by kernel_rfl) (by kernel_rfl) (wanted_none rfl) (fun _ _ _ h => h) (fun U hU => r_move (by simp [eval_put_ne, eval_put_eq, size_put, hts])) ?_
                        refine tkS 2 61 (v := .pointer (some ⟨b5, 0, none⟩)) hS0 rfl rfl (by kernel_rfl) (by kernel_rfl) (by kernel_rfl) (by kernel_rfl) (wanted_some (j := 1) (d := 60) (bb := true) rfl rfl rfl (by simp [eval_put_ne, eval_put_eq, size_put, hts]) (by simp [size_put, hts])) (fun _ _ _ h => h) (fun U hU => r_f40_0 (by simp [eval_put_ne, eval_put_eq, size_put, hts, e5])) ?_
                        refine tkS 3 62 (v := .int .i64 p) hS0 rfl rfl (by kernel_rfl) (by kernel_rfl) (by kernel_rfl) (by kernel_rfl) (wanted_some (j := 1) (d := 60) (bb := true) rfl rfl rfl (by simp [eval_put_ne, eval_put_eq, size_put, hts]) (by simp [size_put, hts])) (fun _ _ _ h => h) (fun U hU => r_ld3 (b := b5) (o := 0) (by simp [eval_put_ne, eval_put_eq, size_put, hts]) (by have := (hU.cells c5w (fun h => h)) 0 _ rfl; simpa using this)) ?_
                        refine tkS 4 63 (v := .bool true) hS0 rfl rfl (by kernel_rfl) (by kernel_rfl) (by kernel_rfl) (by kernel_rfl) (wanted_some (j := 1) (d := 60) (bb := true) rfl rfl rfl (by simp [eval_put_ne, eval_put_eq, size_put, hts]) (by simp [size_put, hts])) (fun _ _ _ h => h) (fun U hU => (r_geq3 (p := p) (q := 0) (by simp [eval_put_ne, eval_put_eq, size_put, hts]) rfl).trans (by rw [HP0.out])) ?_
                        refine tkS 5 64 (v := .bool true) hS0 rfl rfl (by kernel_rfl) (by kernel_rfl) (by kernel_rfl) (by kernel_rfl) (wanted_none rfl) (fun _ _ _ h => h) (fun U hU => r_pick (by simp [eval_put_ne, eval_put_eq, size_put, hts]) (by simp [eval_put_ne, eval_put_eq, size_put, hts])) ?_
                        refine tkS 6 65 (v := .bool true) hS0 rfl rfl (by kernel_rfl) (by kernel_rfl) (by kernel_rfl) (by kernel_rfl) (wanted_none rfl) (fun _ _ _ h => h) (fun U hU => r_move (by simp [eval_put_ne, eval_put_eq, size_put, hts])) ?_
                        refine tkS 7 66 (v := .pointer (some ⟨b5, 0, none⟩)) hS0 rfl rfl (by kernel_rfl) (by kernel_rfl) (by kernel_rfl) (by kernel_rfl) (wanted_some (j := 6) (d := 65) (bb := true) rfl rfl rfl (by simp [eval_put_ne, eval_put_eq, size_put, hts]) (by simp [size_put, hts])) (fun _ _ _ h => h) (fun U hU => r_f40_0 (by simp [eval_put_ne, eval_put_eq, size_put, hts, e5])) ?_
                        refine tkS 8 67 (v := .int .i64 p) hS0 rfl rfl (by kernel_rfl) (by kernel_rfl) (by kernel_rfl) (by kernel_rfl) (wanted_some (j := 6) (d := 65) (bb := true) rfl rfl rfl (by simp [eval_put_ne, eval_put_eq, size_put, hts]) (by simp [size_put, hts])) (fun _ _ _ h => h) (fun U hU => r_ld3 (b := b5) (o := 0) (by simp [eval_put_ne, eval_put_eq, size_put, hts]) (by have := (hU.cells c5w (fun h => h)) 0 _ rfl; simpa using this)) ?_
                        refine tkS 9 68 (v := .bool false) hS0 rfl rfl (by kernel_rfl) (by kernel_rfl) (by kernel_rfl) (by kernel_rfl) (wanted_some (j := 6) (d := 65) (bb := true) rfl rfl rfl (by simp [eval_put_ne, eval_put_eq, size_put, hts]) (by simp [size_put, hts])) (fun _ _ _ h => h) (fun U hU => (r_lss3 (p := p) (q := 64) (by simp [eval_put_ne, eval_put_eq, size_put, hts]) rfl).trans (by rw [HP1.out])) ?_
                        refine tkS 10 69 (v := .bool false) hS0 rfl rfl (by kernel_rfl) (by kernel_rfl) (by kernel_rfl) (by kernel_rfl) (wanted_none rfl) (fun _ _ _ h => h) (fun U hU => r_pick (by simp [eval_put_ne, eval_put_eq, size_put, hts]) (by simp [eval_put_ne, eval_put_eq, size_put, hts])) ?_
                        refine tkS 11 70 (v := .bool false) hS0 rfl rfl (by kernel_rfl) (by kernel_rfl) (by kernel_rfl) (by kernel_rfl) (wanted_none rfl) (fun _ _ _ h => h) (fun U hU => r_move (by simp [eval_put_ne, eval_put_eq, size_put, hts])) ?_
                        refine tkNS 12 71 hS0 rfl rfl (by kernel_rfl) (by kernel_rfl) (by kernel_rfl) (by kernel_rfl) (wanted_not (j := 11) (d := 70) (bb := true) rfl rfl rfl (by simp [eval_put_ne, eval_put_eq, size_put, hts]) (by simp [size_put, hts])) (fun _ _ _ h => h) ?_
                        refine tkNS 13 72 hS0 rfl rfl (by kernel_rfl) (by kernel_rfl) (by kernel_rfl) (by kernel_rfl) (wanted_not (j := 11) (d := 70) (bb := true) rfl rfl rfl (by simp [eval_put_ne, eval_put_eq, size_put, hts]) (by simp [size_put, hts])) (fun _ _ _ h => h) ?_
                        refine tkNS 14 73 hS0 rfl rfl (by kernel_rfl) (by kernel_rfl) (by kernel_rfl) (by kernel_rfl) (wanted_not (j := 11) (d := 70) (bb := true) rfl rfl rfl (by simp [eval_put_ne, eval_put_eq, size_put, hts]) (by simp [size_put, hts])) (fun _ _ _ h => h) ?_
                        refine tkNS 15 74 hS0 rfl rfl (by kernel_rfl) (by kernel_rfl) (by kernel_rfl) (by kernel_rfl) (wanted_not (j := 11) (d := 70) (bb := true) rfl rfl rfl (by simp [eval_put_ne, eval_put_eq, size_put, hts]) (by simp [size_put, hts])) (fun _ _ _ h => h) ?_
                        refine tkS 16 75 (v := .bool false) hS0 rfl rfl (by kernel_rfl) (by kernel_rfl) (by kernel_rfl) (by kernel_rfl) (wanted_none rfl) (fun _ _ _ h => h) (fun U hU => r_pickF (by simp [eval_put_ne, eval_put_eq, size_put, hts]) rfl) ?_
                        refine tkS 17 76 (v := .bool false) hS0 rfl rfl (by kernel_rfl) (by kernel_rfl) (by kernel_rfl) (by kernel_rfl) (wanted_none rfl) (fun _ _ _ h => h) (fun U hU => r_move (by simp [eval_put_ne, eval_put_eq, size_put, hts])) ?_
                        refine tkNS 18 77 hS0 rfl rfl (by kernel_rfl) (by kernel_rfl) (by kernel_rfl) (by kernel_rfl) (wanted_not (j := 17) (d := 76) (bb := true) rfl rfl rfl (by simp [eval_put_ne, eval_put_eq, size_put, hts]) (by simp [size_put, hts])) (fun _ _ _ h => h) ?_
                        refine tkNS 19 78 hS0 rfl rfl (by kernel_rfl) (by kernel_rfl) (by kernel_rfl) (by kernel_rfl) (wanted_not (j := 17) (d := 76) (bb := true) rfl rfl rfl (by simp [eval_put_ne, eval_put_eq, size_put, hts]) (by simp [size_put, hts])) (fun _ _ _ h => h) ?_
                        refine tkNS 20 79 hS0 rfl rfl (by kernel_rfl) (by kernel_rfl) (by kernel_rfl) (by kernel_rfl) (wanted_not (j := 17) (d := 76) (bb := true) rfl rfl rfl (by simp [eval_put_ne, eval_put_eq, size_put, hts]) (by simp [size_put, hts])) (fun _ _ _ h => h) ?_
                        refine tkNS 21 80 hS0 rfl rfl (by kernel_rfl) (by kernel_rfl) (by kernel_rfl) (by kernel_rfl) (wanted_undef (j := 20) (d := 79) (bb := false) rfl rfl rfl (by simp [eval_put_ne, eval_put_eq, size_put, hts]) (by simp [size_put, hts])) (fun _ _ _ h => h) ?_
                        refine tkNS 22 81 hS0 rfl rfl (by kernel_rfl) (by kernel_rfl) (by kernel_rfl) (by kernel_rfl) (wanted_undef (j := 20) (d := 79) (bb := false) rfl rfl rfl (by simp [eval_put_ne, eval_put_eq, size_put, hts]) (by simp [size_put, hts])) (fun _ _ _ h => h) ?_
                        refine tkNS 23 82 hS0 rfl rfl (by kernel_rfl) (by kernel_rfl) (by kernel_rfl) (by kernel_rfl) (wanted_undef (j := 20) (d := 79) (bb := false) rfl rfl rfl (by simp [eval_put_ne, eval_put_eq, size_put, hts]) (by simp [size_put, hts])) (fun _ _ _ h => h) ?_
                        refine tkNS 24 83 hS0 rfl rfl (by kernel_rfl) (by kernel_rfl) (by kernel_rfl) (by kernel_rfl) (wanted_undef (j := 20) (d := 79) (bb := false) rfl rfl rfl (by simp [eval_put_ne, eval_put_eq, size_put, hts]) (by simp [size_put, hts])) (fun _ _ _ h => h) ?_
                        refine tkNS 25 84 hS0 rfl rfl (by kernel_rfl) (by kernel_rfl) (by kernel_rfl) (by kernel_rfl) (wanted_undef (j := 20) (d := 79) (bb := false) rfl rfl rfl (by simp [eval_put_ne, eval_put_eq, size_put, hts]) (by simp [size_put, hts])) (fun _ _ _ h => h) ?_
                        refine tkNS 26 85 hS0 rfl rfl (by kernel_rfl) (by kernel_rfl) (by kernel_rfl) (by kernel_rfl) (wanted_undef (j := 20) (d := 79) (bb := false) rfl rfl rfl (by simp [eval_put_ne, eval_put_eq, size_put, hts]) (by simp [size_put, hts])) (fun _ _ _ h => h) ?_
                        refine tkNS 27 86 hS0 rfl rfl (by kernel_rfl) (by kernel_rfl) (by kernel_rfl) (by kernel_rfl) (wanted_undef (j := 20) (d := 79) (bb := false) rfl rfl rfl (by simp [eval_put_ne, eval_put_eq, size_put, hts]) (by simp [size_put, hts])) (fun _ _ _ h => h) ?_
                        refine tkNS 28 87 hS0 rfl rfl (by kernel_rfl) (by kernel_rfl) (by kernel_rfl) (by kernel_rfl) (wanted_undef (j := 20) (d := 79) (bb := false) rfl rfl rfl (by simp [eval_put_ne, eval_put_eq, size_put, hts]) (by simp [size_put, hts])) (fun _ _ _ h => h) ?_
                        refine tkNS 29 88 hS0 rfl rfl (by kernel_rfl) (by kernel_rfl) (by kernel_rfl) (by kernel_rfl) (wanted_undef (j := 20) (d := 79) (bb := false) rfl rfl rfl (by simp [eval_put_ne, eval_put_eq, size_put, hts]) (by simp [size_put, hts])) (fun _ _ _ h => h) ?_
                        refine tkNS 30 89 hS0 rfl rfl (by kernel_rfl) (by kernel_rfl) (by kernel_rfl) (by kernel_rfl) (wanted_undef (j := 20) (d := 79) (bb := false) rfl rfl rfl (by simp [eval_put_ne, eval_put_eq, size_put, hts]) (by simp [size_put, hts])) (fun _ _ _ h => h) ?_
                        refine tkNS 31 90 hS0 rfl rfl (by kernel_rfl) (by kernel_rfl) (by kernel_rfl) (by kernel_rfl) (wanted_not (j := 17) (d := 76) (bb := true) rfl rfl rfl (by simp [eval_put_ne, eval_put_eq, size_put, hts]) (by simp [size_put, hts])) (fun _ _ _ h => h) ?_
                        refine tkS 32 91 (v := .bool false) hS0 rfl rfl (by kernel_rfl) (by kernel_rfl) (by kernel_rfl) (by kernel_rfl) (wanted_none rfl) (fun _ _ _ h => h) (fun U hU => r_pickF (by simp [eval_put_ne, eval_put_eq, size_put, hts]) rfl) ?_
                        refine tkS 33 3 (v := .bool false) hS0 rfl rfl (by kernel_rfl) (by kernel_rfl) (by kernel_rfl) (by kernel_rfl) (wanted_none rfl) (fun _ _ _ h => h) (fun U hU => r_assign (by simp [eval_put_ne, eval_put_eq, size_put, hts])) ?_
                        refine doneS (by kernel_rfl) ?_
                        have hkr3 := hkr2.trans hkw (fun _ _ h => h)
                        clear c5w
                        clear hS0 hkw hheap
                        rw [hfr.out]
                        clear hfr e1 e3 e4 e5 hts
                        simp only [put_lit, put_none, List.set_cons_succ, List.set_cons_zero]
                        go_wp2
                        go_roundw
                        case rel => exact ⟨false, k + 1, rfl, by simp, by omega, HT.out, hkr3⟩
                        case measure => simp [intOf]; omega
                    · have HP0 : Hid (decide (p ≥ 0) = false) := hide (decide_eq_false h0)
                      have HT : Hid (false = (true && goodFrom (-1) ((l.take (k + 1)).map Wv.wr))) := hide (by rw [HStep.out]; simp only [Bool.true_and]; symm; rw [Bool.and_eq_false_iff]; right; exact decide_eq_false (fun h => h0 h.2.1))
                      clear HStep HI
                      clear h0
                      go_wp2
                      refine hold_frame (p := fun fr => Code.wp Try.prog _ _ fr _) ?_
                      intro fr hfr
                      have e1 : fr.eval (.tmp 1) = .pointer (some ⟨b0, 0, none⟩) := by rw [hfr.out]; rfl
                      have e3 : fr.eval (.tmp 3) = .bool true := by rw [hfr.out]; rfl
                      have e4 : fr.eval (.tmp 4) = .int .i64 ((k : Nat) : Int) := by rw [hfr.out]; rfl
                      have e5 : fr.eval (.tmp 5) = .pointer (some ⟨b5, 0, none⟩) := by rw [hfr.out]; rfl
                      have hts : fr.tmps.size = 104 := by rw [hfr.out]; rfl
                      refine region_S0 99 Try.mixed ?_
                      intro w0 hkw hheap
                      have c5w := hkw.cells HC5.out (fun h => h)
                      have hS0 : Kept (fun _ => False) w0 w0 := Kept.refl (fun _ => False) w0
                      refine ⟨Kept (fun _ => False) w0, ?_⟩
                      refine tkS 0 59 (v := .bool true) hS0 rfl rfl (by kernel_rfl) (by kernel_rfl) (by kernel_rfl) (by kernel_rfl) (wanted_none rfl) (fun _ _ _ h => h) (fun U hU => r_move (by simp [eval_put_ne, eval_put_eq, size_put, hts, e3])) ?_
                      refine tkS 1 60 (v := .bool true) hS0 rfl rfl (by kernel_rfl) (by kernel_rfl) (by kernel_rfl) (by kernel_rfl) (wanted_none rfl) (fun _ _ _ h => h) (fun U hU => r_move (by simp [eval_put_ne, eval_put_eq, size_put, hts])) ?_
                      refine tkS 2 61 (v := .pointer (some ⟨b5, 0, none⟩)) hS0 rfl rfl (by kernel_rfl) (by kernel_rfl) (by kernel_rfl) (by kernel_rfl) (wanted_some (j := 1) (d := 60) (bb := true) rfl rfl rfl (by simp [eval_put_ne, eval_put_eq, size_put, hts]) (by simp [size_put, hts])) (fun _ _ _ h => h) (fun U hU => r_f40_0 (by simp [eval_put_ne, eval_put_eq, size_put, hts, e5])) ?_
                      refine tkS 3 62 (v := .int .i64 p) hS0 rfl rfl (by kernel_rfl) (by kernel_rfl) (by kernel_rfl) (by kernel_rfl) (wanted_some (j := 1) (d := 60) (bb := true) rfl rfl rfl (by simp [eval_put_ne, eval_put_eq, size_put, hts]) (by simp [size_put, hts])) (fun _ _ _ h => h) (fun U hU => r_ld3 (b := b5) (o := 0) (by simp [eval_put_ne, eval_put_eq, size_put, hts]) (by have := (hU.cells c5w (fun h => h)) 0 _ rfl; simpa using this)) ?_
                      refine tkS 4 63 (v := .bool false) hS0 rfl rfl (by kernel_rfl) (by kernel_rfl) (by kernel_rfl) (by kernel_rfl) (wanted_some (j := 1) (d := 60) (bb := true) rfl rfl rfl (by simp [eval_put_ne, eval_put_eq, size_put, hts]) (by simp [size_put, hts])) (fun _ _ _ h => h) (fun U hU => (r_geq3 (p := p) (q := 0) (by simp [eval_put_ne, eval_put_eq, size_put, hts]) rfl).trans (by rw [HP0.out])) ?_
                      refine tkS 5 64 (v := .bool false) hS0 rfl rfl (by kernel_rfl) (by kernel_rfl) (by kernel_rfl) (by kernel_rfl) (wanted_none rfl) (fun _ _ _ h => h) (fun U hU => r_pick (by simp [eval_put_ne, eval_put_eq, size_put, hts]) (by simp [eval_put_ne, eval_put_eq, size_put, hts])) ?_
                      refine tkS 6 65 (v := .bool false) hS0 rfl rfl (by kernel_rfl) (by kernel_rfl) (by kernel_rfl) (by kernel_rfl) (wanted_none rfl) (fun _ _ _ h => h) (fun U hU => r_move (by simp [eval_put_ne, eval_put_eq, size_put, hts])) ?_
                      refine tkNS 7 66 hS0 rfl rfl (by kernel_rfl) (by kernel_rfl) (by kernel_rfl) (by kernel_rfl) (wanted_not (j := 6) (d := 65) (bb := true) rfl rfl rfl (by simp [eval_put_ne, eval_put_eq, size_put, hts]) (by simp [size_put, hts])) (fun _ _ _ h => h) ?_
                      refine tkNS 8 67 hS0 rfl rfl (by kernel_rfl) (by kernel_rfl) (by kernel_rfl) (by kernel_rfl) (wanted_not (j := 6) (d := 65) (bb := true) rfl rfl rfl (by simp [eval_put_ne, eval_put_eq, size_put, hts]) (by simp [size_put, hts])) (fun _ _ _ h => h) ?_
                      refine tkNS 9 68 hS0 rfl rfl (by kernel_rfl) (by kernel_rfl) (by kernel_rfl) (by kernel_rfl) (wanted_not (j := 6) (d := 65) (bb := true) rfl rfl rfl (by simp [eval_put_ne, eval_put_eq, size_put, hts]) (by simp [size_put, hts])) (fun _ _ _ h => h) ?_
                      refine tkS 10 69 (v := .bool false) hS0 rfl rfl (by kernel_rfl) (by kernel_rfl) (by kernel_rfl) (by kernel_rfl) (wanted_none rfl) (fun _ _ _ h => h) (fun U hU => r_pickF (by simp [eval_put_ne, eval_put_eq, size_put, hts]) rfl) ?_
                      refine tkS 11 70 (v := .bool false) hS0 rfl rfl (by kernel_rfl) (by kernel_rfl) (by kernel_rfl) (by kernel_rfl) (wanted_none rfl) (fun _ _ _ h => h) (fun U hU => r_move (by simp [eval_put_ne, eval_put_eq, size_put, hts])) ?_
                      refine tkNS 12 71 hS0 rfl rfl (by kernel_rfl) (by kernel_rfl) (by kernel_rfl) (by kernel_rfl) (wanted_not (j := 11) (d := 70) (bb := true) rfl rfl rfl (by simp [eval_put_ne, eval_put_eq, size_put, hts]) (by simp [size_put, hts])) (fun _ _ _ h => h) ?_
                      refine tkNS 13 72 hS0 rfl rfl (by kernel_rfl) (by kernel_rfl) (by kernel_rfl) (by kernel_rfl) (wanted_not (j := 11) (d := 70) (bb := true) rfl rfl rfl (by simp [eval_put_ne, eval_put_eq, size_put, hts]) (by simp [size_put, hts])) (fun _ _ _ h => h) ?_
                      refine tkNS 14 73 hS0 rfl rfl (by kernel_rfl) (by kernel_rfl) (by kernel_rfl) (by kernel_rfl) (wanted_not (j := 11) (d := 70) (bb := true) rfl rfl rfl (by simp [eval_put_ne, eval_put_eq, size_put, hts]) (by simp [size_put, hts])) (fun _ _ _ h => h) ?_
                      refine tkNS 15 74 hS0 rfl rfl (by kernel_rfl) (by kernel_rfl) (by kernel_rfl) (by kernel_rfl) (wanted_not (j := 11) (d := 70) (bb := true) rfl rfl rfl (by simp [eval_put_ne, eval_put_eq, size_put, hts]) (by simp [size_put, hts])) (fun _ _ _ h => h) ?_
                      refine tkS 16 75 (v := .bool false) hS0 rfl rfl (by kernel_rfl) (by kernel_rfl) (by kernel_rfl) (by kernel_rfl) (wanted_none rfl) (fun _ _ _ h => h) (fun U hU => r_pickF (by simp [eval_put_ne, eval_put_eq, size_put, hts]) rfl) ?_
                      refine tkS 17 76 (v := .bool false) hS0 rfl rfl (by kernel_rfl) (by kernel_rfl) (by kernel_rfl) (by kernel_rfl) (wanted_none rfl) (fun _ _ _ h => h) (fun U hU => r_move (by simp [eval_put_ne, eval_put_eq, size_put, hts])) ?_
                      refine tkNS 18 77 hS0 rfl rfl (by kernel_rfl) (by kernel_rfl) (by kernel_rfl) (by kernel_rfl) (wanted_not (j := 17) (d := 76) (bb := true) rfl rfl rfl (by simp [eval_put_ne, eval_put_eq, size_put, hts]) (by simp [size_put, hts])) (fun _ _ _ h => h) ?_
                      refine tkNS 19 78 hS0 rfl rfl (by kernel_rfl) (by kernel_rfl) (by kernel_rfl) (by kernel_rfl) (wanted_not (j := 17) (d := 76) (bb := true) rfl rfl rfl (by simp [eval_put_ne, eval_put_eq, size_put, hts]) (by simp [size_put, hts])) (fun _ _ _ h => h) ?_
                      refine tkNS 20 79 hS0 rfl rfl (by kernel_rfl) (by kernel_rfl) (by kernel_rfl) (by kernel_rfl) (wanted_not (j := 17) (d := 76) (bb := true) rfl rfl rfl (by simp [eval_put_ne, eval_put_eq, size_put, hts]) (by simp [size_put, hts])) (fun _ _ _ h => h) ?_
                      refine tkNS 21 80 hS0 rfl rfl (by kernel_rfl) (by kernel_rfl) (by kernel_rfl) (by kernel_rfl) (wanted_undef (j := 20) (d := 79) (bb := false) rfl rfl rfl (by simp [eval_put_ne, eval_put_eq, size_put, hts]) (by simp [size_put, hts])) (fun _ _ _ h => h) ?_
                      refine tkNS 22 81 hS0 rfl rfl (by kernel_rfl) (by kernel_rfl) (by kernel_rfl) (by kernel_rfl) (wanted_undef (j := 20) (d := 79) (bb := false) rfl rfl rfl (by simp [eval_put_ne, eval_put_eq, size_put, hts]) (by simp [size_put, hts])) (fun _ _ _ h => h) ?_
                      refine tkNS 23 82 hS0 rfl rfl (by kernel_rfl) (by kernel_rfl) (by kernel_rfl) (by kernel_rfl) (wanted_undef (j := 20) (d := 79) (bb := false) rfl rfl rfl (by simp [eval_put_ne, eval_put_eq, size_put, hts]) (by simp [size_put, hts])) (fun _ _ _ h => h) ?_
                      refine tkNS 24 83 hS0 rfl rfl (by kernel_rfl) (by kernel_rfl) (by kernel_rfl) (by kernel_rfl) (wanted_undef (j := 20) (d := 79) (bb := false) rfl rfl rfl (by simp [eval_put_ne, eval_put_eq, size_put, hts]) (by simp [size_put, hts])) (fun _ _ _ h => h) ?_
                      refine tkNS 25 84 hS0 rfl rfl (by kernel_rfl) (by kernel_rfl) (by kernel_rfl) (by kernel_rfl) (wanted_undef (j := 20) (d := 79) (bb := false) rfl rfl rfl (by simp [eval_put_ne, eval_put_eq, size_put, hts]) (by simp [size_put, hts])) (fun _ _ _ h => h) ?_
                      refine tkNS 26 85 hS0 rfl rfl (by kernel_rfl) (by kernel_rfl) (by kernel_rfl) (by kernel_rfl) (wanted_undef (j := 20) (d := 79) (bb := false) rfl rfl rfl (by simp [eval_put_ne, eval_put_eq, size_put, hts]) (by simp [size_put, hts])) (fun _ _ _ h => h) ?_
                      refine tkNS 27 86 hS0 rfl rfl (by kernel_rfl) (by kernel_rfl) (by kernel_rfl) (by kernel_rfl) (wanted_undef (j := 20) (d := 79) (bb := false) rfl rfl rfl (by simp [eval_put_ne, eval_put_eq, size_put, hts]) (by simp [size_put, hts])) (fun _ _ _ h => h) ?_
                      refine tkNS 28 87 hS0 rfl rfl (by kernel_rfl) (by kernel_rfl) (by kernel_rfl) (by kernel_rfl) (wanted_undef (j := 20) (d := 79) (bb := false) rfl rfl rfl (by simp [eval_put_ne, eval_put_eq, size_put, hts]) (by simp [size_put, hts])) (fun _ _ _ h => h) ?_
                      refine tkNS 29 88 hS0 rfl rfl (by kernel_rfl) (by kernel_rfl) (by kernel_rfl) (by kernel_rfl) (wanted_undef (j := 20) (d := 79) (bb := false) rfl rfl rfl (by simp [eval_put_ne, eval_put_eq, size_put, hts]) (by simp [size_put, hts])) (fun _ _ _ h => h) ?_
                      refine tkNS 30 89 hS0 rfl rfl (by kernel_rfl) (by kernel_rfl) (by kernel_rfl) (by kernel_rfl) (wanted_undef (j := 20) (d := 79) (bb := false) rfl rfl rfl (by simp [eval_put_ne, eval_put_eq, size_put, hts]) (by simp [size_put, hts])) (fun _ _ _ h => h) ?_
                      refine tkNS 31 90 hS0 rfl rfl (by kernel_rfl) (by kernel_rfl) (by kernel_rfl) (by kernel_rfl) (wanted_not (j := 17) (d := 76) (bb := true) rfl rfl rfl (by simp [eval_put_ne, eval_put_eq, size_put, hts]) (by simp [size_put, hts])) (fun _ _ _ h => h) ?_
                      refine tkS 32 91 (v := .bool false) hS0 rfl rfl (by kernel_rfl) (by kernel_rfl) (by kernel_rfl) (by kernel_rfl) (wanted_none rfl) (fun _ _ _ h => h) (fun U hU => r_pickF (by simp [eval_put_ne, eval_put_eq, size_put, hts]) rfl) ?_
                      refine tkS 33 3 (v := .bool false) hS0 rfl rfl (by kernel_rfl) (by kernel_rfl) (by kernel_rfl) (by kernel_rfl) (wanted_none rfl) (fun _ _ _ h => h) (fun U hU => r_assign (by simp [eval_put_ne, eval_put_eq, size_put, hts])) ?_
                      refine doneS (by kernel_rfl) ?_
                      have hkr3 := hkr2.trans hkw (fun _ _ h => h)
                      clear c5w
                      clear hS0 hkw hheap
                      rw [hfr.out]
                      clear hfr e1 e3 e4 e5 hts
                      simp only [put_lit, put_none, List.set_cons_succ, List.set_cons_zero]
                      go_wp2
                      go_roundw
                      case rel => exact ⟨false, k + 1, rfl, by simp, by omega, HT.out, hkr3⟩
                      case measure => simp [intOf]; omega
                · obtain rfl : n = k := by omega
                  have HG : Hid (b3 = (true && goodFrom (-1) (l.map Wv.wr))) := hide (by have h := HI.out; rw [List.take_of_length_le (by rw [← Hn.out]; exact Nat.le_refl _)] at h; exact h)
                  have c0 : wr.cell? ⟨b0, 0, none⟩ = some (.int .i64 kd) := (hkr.blk HB1.out (fun h => h)).cell 0
                  have c2 : wr.cell? ⟨b0, 2, none⟩ = some (.int .i64 nm) := (hkr.blk HB1.out (fun h => h)).cell 2
                  have HKr := hide (HK1.out.trans hkr (fun _ _ h => h))
                  clear HI hkr hlt hk
                  cases b3 with
                  | false =>
                    obtain rfl : b = false := by
                      rw [← HB.out]
                      by_cases h3 : kd = 3
                      · rw [h3, rightR_3, HTN.out, Bool.and_right_comm, ← HG.out]; rfl
                      · exact rightR_no (by omega) (by omega) h3
                    go_wp2
                    go_ret
                    exact ⟨by first | rfl | (simp; done) | (simp; omega), HKr.out⟩
                  | true =>
                    by_cases h3 : kd = 3
                    · subst h3
                      by_cases h0 : 0 < nm
                      · obtain rfl : b = true := by
                          rw [← HB.out, rightR_3, HTN.out, Bool.and_right_comm, ← HG.out]
                          simpa using h0
                        go_wp2
                        go_ret
                        exact ⟨by first | rfl | (simp; done) | (simp; omega), HKr.out⟩
                      · obtain rfl : b = false := by
                          rw [← HB.out, rightR_3]
                          simp [h0]
                        go_wp2
                        go_ret
                        exact ⟨by first | rfl | (simp; done) | (simp; omega), HKr.out⟩
                    · obtain rfl : b = false := by
                        rw [← HB.out]
                        exact rightR_no (by omega) (by omega) h3
                      go_wp2
                      go_ret
                      exact ⟨by first | rfl | (simp; done) | (simp; omega), HKr.out⟩
          · have h4' : 1099511627776 < nm := by omega
            have HTN : Hid (tnB tl nm = false) := hide (by unfold tnB; simp; omega)
            by_cases hk1 : kd = 1
            · subst hk1
              by_cases hl0 : n = 0
              · obtain rfl : b = false := by
                  rw [← HB.out, rightR_1, HTN.out, List.length_map, ← Hn.out, hl0]
                  rfl
                have hn0 : (n : Int) = 0 := by omega
                go_wp2
                go_ret
                exact ⟨by first | rfl | (simp; done) | (simp; omega), HK1.out⟩
              · obtain rfl : b = false := by
                  rw [← HB.out, rightR_1, List.length_map, ← Hn.out, decide_eq_false hl0, Bool.and_false]
                have hn0 : ¬ (n : Int) = 0 := by omega
                go_wp2
                go_ret
                exact ⟨by first | rfl | (simp; done) | (simp; omega), HK1.out⟩
            · go_wp2
              go_loopw [3, 54] (fun bv kv W => ∃ (b3 : Bool) (k : Nat), bv = .bool b3 ∧ kv = .int .i64 k ∧ k ≤ n ∧ Hid (b3 = (false && goodFrom (-1) ((l.take k).map Wv.wr))) ∧ Kept (fun _ => False) w1 W) (fun _ kv _ => n - (intOf kv).toNat)
              case atStart => exact ⟨false, 0, rfl, rfl, Nat.zero_le _, hide (by simp [goodFrom]), Kept.refl _ _⟩
              case round =>
                obtain ⟨b3, k, rfl, rfl, hk, HI, hkr⟩ := hrel
                by_cases hlt : k < n
                · have hkl : k < l.length := by rw [← Hn.out]; exact hlt
                  obtain ⟨g, off, rfl, c0, c1, hsrc, hnl⟩ := ((HW.out.kept HK1.out).kept hkr).get hkl
                  have HCells : Hid (∀ j (hj : j < l.length), Cells wr g (off + j * 2) [.int .i64 l[j].blk]) := hide (fun j hj => by
                    obtain ⟨g', off', e, c, _⟩ := ((HW.out.kept HK1.out).kept hkr).get hj
                    cases e
                    exact cell_one c)
                  have HStep := hide (good_take hkl)
                  have HPrev : Hid (∀ j (hj : j + 1 = k), lastB (-1) ((l.take k).map Wv.wr) = (l[j]'(by omega)).blk) := hide (fun j hj => by subst hj; exact lastB_take (by omega))
                  obtain ⟨x, hx⟩ : ∃ x, x = l[k] := ⟨_, rfl⟩
                  rw [← hx] at c0 c1 HStep hnl
                  obtain ⟨p, ⟨ya, yn, yc⟩, yB⟩ := x
                  simp only [Wv.wr] at c0 c1 HStep hnl
                  have Hyl : Hid (yn = yB.length) := hide hnl
                  have Hx := hide hx
                  clear hx hsrc hnl
                  have e3 : wr.cell? ⟨b0, 3, none⟩ = some (.slice (some ⟨g, off, none⟩) n xc) := (hkr.blk HB1.out (fun h => h)).cell 3
                  go_wp2_with (first
                    | ((with_reducible refine aw_alloc (t := 40) Hi40.out Hz40.out ?_); intro w3 hw3 hk3 hz3; have Yz3 := hide hz3; clear hz3 c0 c1)
                    | ((with_reducible refine aw_store (M := [.int .i64 p, .slice ya yn yc]) Try.agg40 rfl rfl rfl (by simp [Value.oneCell']) hw3 (by simp [Value.cells]) ?_); intro w4 hw4 hk4 hz4; rw [put_whole _ _ (by simp [Value.cells])] at hw4; have hkrr : Kept (fun _ => False) wr w4 := hk3.trans hk4 (fun i hi h => by omega); have hkr2 := hkr.trans hkrr (fun _ _ h => h); clear hz4)
                    | fail)
                  obtain ⟨b5, hb5⟩ : ∃ b, b = wr.heap.size := ⟨_, rfl⟩
                  rw [← hb5] at hw4 ⊢
                  have HC5 : Hid (Cells w4 b5 0 [.int .i64 p, .slice ya yn yc]) := hide (fun i u hi => by rw [Nat.zero_add, hw4.cell]; exact hi)
                  have HC0 : Hid (Cells w4 b0 3 [.slice (some ⟨g, off, none⟩) n xc]) := hide (cell_one ((hkr2.blk HB1.out (fun h => h)).cell 3))
                  have HCj4 : Hid (∀ j (hj : j < l.length), Cells w4 g (off + j * 2) [.int .i64 l[j].blk]) := hide (fun j hj => hkrr.cells (HCells.out j hj) (fun h => h))
                  clear hw3 hw4 hk3 hk4 hkr hkrr hb5 Yz3 HCells e3
                  cases b3 with
                  | false =>
                    have HT : Hid (false = (false && goodFrom (-1) ((l.take (k + 1)).map Wv.wr))) := hide (by rw [HStep.out, ← Bool.and_assoc, ← HI.out]; rfl)
                    clear HStep HI
                    go_wp2
                    refine hold_frame (p := fun fr => Code.wp Try.prog _ _ fr _) ?_
                    intro fr hfr
                    have e1 : fr.eval (.tmp 1) = .pointer (some ⟨b0, 0, none⟩) := by rw [hfr.out]; rfl
                    have e3 : fr.eval (.tmp 3) = .bool false := by rw [hfr.out]; rfl
                    have e4 : fr.eval (.tmp 4) = .int .i64 ((k : Nat) : Int) := by rw [hfr.out]; rfl
                    have e5 : fr.eval (.tmp 5) = .pointer (some ⟨b5, 0, none⟩) := by rw [hfr.out]; rfl
                    have hts : fr.tmps.size = 104 := by rw [hfr.out]; rfl
                    refine region_S0 99 Try.mixed ?_
                    intro w0 hkw hheap
                    have c5w := hkw.cells HC5.out (fun h => h)
                    have hS0 : Kept (fun _ => False) w0 w0 := Kept.refl (fun _ => False) w0
                    refine ⟨Kept (fun _ => False) w0, ?_⟩
                    refine tkS 0 59 (v := .bool false) hS0 rfl rfl (by kernel_rfl) (by kernel_rfl) (by kernel_rfl) (by kernel_rfl) (wanted_none rfl) (fun _ _ _ h => h) (fun U hU => r_move (by simp [eval_put_ne, eval_put_eq, size_put, hts, e3])) ?_
                    refine tkS 1 60 (v := .bool false) hS0 rfl rfl (by kernel_rfl) (by kernel_rfl) (by kernel_rfl) (by kernel_rfl) (wanted_none rfl) (fun _ _ _ h => h) (fun U hU => r_move (by simp [eval_put_ne, eval_put_eq, size_put, hts])) ?_
                    refine tkNS 2 61 hS0 rfl rfl (by kernel_rfl) (by kernel_rfl) (by kernel_rfl) (by kernel_rfl) (wanted_not (j := 1) (d := 60) (bb := true) rfl rfl rfl (by simp [eval_put_ne, eval_put_eq, size_put, hts]) (by simp [size_put, hts])) (fun _ _ _ h => h) ?_
                    refine tkNS 3 62 hS0 rfl rfl (by kernel_rfl) (by kernel_rfl) (by kernel_rfl) (by kernel_rfl) (wanted_not (j := 1) (d := 60) (bb := true) rfl rfl rfl (by simp [eval_put_ne, eval_put_eq, size_put, hts]) (by simp [size_put, hts])) (fun _ _ _ h => h) ?_
                    refine tkNS 4 63 hS0 rfl rfl (by kernel_rfl) (by kernel_rfl) (by kernel_rfl) (by kernel_rfl) (wanted_not (j := 1) (d := 60) (bb := true) rfl rfl rfl (by simp [eval_put_ne, eval_put_eq, size_put, hts]) (by simp [size_put, hts])) (fun _ _ _ h => h) ?_
                    refine tkS 5 64 (v := .bool false) hS0 rfl rfl (by kernel_rfl) (by kernel_rfl) (by kernel_rfl) (by kernel_rfl) (wanted_none rfl) (fun _ _ _ h => h) (fun U hU => r_pickF (by simp [eval_put_ne, eval_put_eq, size_put, hts]) rfl) ?_
                    refine tkS 6 65 (v := .bool false) hS0 rfl rfl (by kernel_rfl) (by kernel_rfl) (by kernel_rfl) (by kernel_rfl) (wanted_none rfl) (fun _ _ _ h => h) (fun U hU => r_move (by simp [eval_put_ne, eval_put_eq, size_put, hts])) ?_
                    refine tkNS 7 66 hS0 rfl rfl (by kernel_rfl) (by kernel_rfl) (by kernel_rfl) (by kernel_rfl) (wanted_not (j := 6) (d := 65) (bb := true) rfl rfl rfl (by simp [eval_put_ne, eval_put_eq, size_put, hts]) (by simp [size_put, hts])) (fun _ _ _ h => h) ?_
                    refine tkNS 8 67 hS0 rfl rfl (by kernel_rfl) (by kernel_rfl) (by kernel_rfl) (by kernel_rfl) (wanted_not (j := 6) (d := 65) (bb := true) rfl rfl rfl (by simp [eval_put_ne, eval_put_eq, size_put, hts]) (by simp [size_put, hts])) (fun _ _ _ h => h) ?_
                    refine tkNS 9 68 hS0 rfl rfl (by kernel_rfl) (by kernel_rfl) (by kernel_rfl) (by kernel_rfl) (wanted_not (j := 6) (d := 65) (bb := true) rfl rfl rfl (by simp [eval_put_ne, eval_put_eq, size_put, hts]) (by simp [size_put, hts])) (fun _ _ _ h => h) ?_
                    refine tkS 10 69 (v := .bool false) hS0 rfl rfl (by kernel_rfl) (by kernel_rfl) (by kernel_rfl) (by kernel_rfl) (wanted_none rfl) (fun _ _ _ h => h) (fun U hU => r_pickF (by simp [eval_put_ne, eval_put_eq, size_put, hts]) rfl) ?_
                    refine tkS 11 70 (v := .bool false) hS0 rfl rfl (by kernel_rfl) (by kernel_rfl) (by kernel_rfl) (by kernel_rfl) (wanted_none rfl) (fun _ _ _ h => h) (fun U hU => r_move (by simp [eval_put_ne, eval_put_eq, size_put, hts])) ?_
                    refine tkNS 12 71 hS0 rfl rfl (by kernel_rfl) (by kernel_rfl) (by kernel_rfl) (by kernel_rfl) (wanted_not (j := 11) (d := 70) (bb := true) rfl rfl rfl (by simp [eval_put_ne, eval_put_eq, size_put, hts]) (by simp [size_put, hts])) (fun _ _ _ h => h) ?_
                    refine tkNS 13 72 hS0 rfl rfl (by kernel_rfl) (by kernel_rfl) (by kernel_rfl) (by kernel_rfl) (wanted_not (j := 11) (d := 70) (bb := true) rfl rfl rfl (by simp [eval_put_ne, eval_put_eq, size_put, hts]) (by simp [size_put, hts])) (fun _ _ _ h => h) ?_
                    refine tkNS 14 73 hS0 rfl rfl (by kernel_rfl) (by kernel_rfl) (by kernel_rfl) (by kernel_rfl) (wanted_not (j := 11) (d := 70) (bb := true) rfl rfl rfl (by simp [eval_put_ne, eval_put_eq, size_put, hts]) (by simp [size_put, hts])) (fun _ _ _ h => h) ?_
                    refine tkNS 15 74 hS0 rfl rfl (by kernel_rfl) (by kernel_rfl) (by kernel_rfl) (by kernel_rfl) (wanted_not (j := 11) (d := 70) (bb := true) rfl rfl rfl (by simp [eval_put_ne, eval_put_eq, size_put, hts]) (by simp [size_put, hts])) (fun _ _ _ h => h) ?_
                    refine tkS 16 75 (v := .bool false) hS0 rfl rfl (by kernel_rfl) (by kernel_rfl) (by kernel_rfl) (by kernel_rfl) (wanted_none rfl) (fun _ _ _ h => h) (fun U hU => r_pickF (by simp [eval_put_ne, eval_put_eq, size_put, hts]) rfl) ?_
                    refine tkS 17 76 (v := .bool false) hS0 rfl rfl (by kernel_rfl) (by kernel_rfl) (by kernel_rfl) (by kernel_rfl) (wanted_none rfl) (fun _ _ _ h => h) (fun U hU => r_move (by simp [eval_put_ne, eval_put_eq, size_put, hts])) ?_
                    refine tkNS 18 77 hS0 rfl rfl (by kernel_rfl) (by kernel_rfl) (by kernel_rfl) (by kernel_rfl) (wanted_not (j := 17) (d := 76) (bb := true) rfl rfl rfl (by simp [eval_put_ne, eval_put_eq, size_put, hts]) (by simp [size_put, hts])) (fun _ _ _ h => h) ?_
                    refine tkNS 19 78 hS0 rfl rfl (by kernel_rfl) (by kernel_rfl) (by kernel_rfl) (by kernel_rfl) (wanted_not (j := 17) (d := 76) (bb := true) rfl rfl rfl (by simp [eval_put_ne, eval_put_eq, size_put, hts]) (by simp [size_put, hts])) (fun _ _ _ h => h) ?_
                    refine tkNS 20 79 hS0 rfl rfl (by kernel_rfl) (by kernel_rfl) (by kernel_rfl) (by kernel_rfl) (wanted_not (j := 17) (d := 76) (bb := true) rfl rfl rfl (by simp [eval_put_ne, eval_put_eq, size_put, hts]) (by simp [size_put, hts])) (fun _ _ _ h => h) ?_
                    refine tkNS 21 80 hS0 rfl rfl (by kernel_rfl) (by kernel_rfl) (by kernel_rfl) (by kernel_rfl) (wanted_undef (j := 20) (d := 79) (bb := false) rfl rfl rfl (by simp [eval_put_ne, eval_put_eq, size_put, hts]) (by simp [size_put, hts])) (fun _ _ _ h => h) ?_
                    refine tkNS 22 81 hS0 rfl rfl (by kernel_rfl) (by kernel_rfl) (by kernel_rfl) (by kernel_rfl) (wanted_undef (j := 20) (d := 79) (bb := false) rfl rfl rfl (by simp [eval_put_ne, eval_put_eq, size_put, hts]) (by simp [size_put, hts])) (fun _ _ _ h => h) ?_
                    refine tkNS 23 82 hS0 rfl rfl (by kernel_rfl) (by kernel_rfl) (by kernel_rfl) (by kernel_rfl) (wanted_undef (j := 20) (d := 79) (bb := false) rfl rfl rfl (by simp [eval_put_ne, eval_put_eq, size_put, hts]) (by simp [size_put, hts])) (fun _ _ _ h => h) ?_
                    refine tkNS 24 83 hS0 rfl rfl (by kernel_rfl) (by kernel_rfl) (by kernel_rfl) (by kernel_rfl) (wanted_undef (j := 20) (d := 79) (bb := false) rfl rfl rfl (by simp [eval_put_ne, eval_put_eq, size_put, hts]) (by simp [size_put, hts])) (fun _ _ _ h => h) ?_
                    refine tkNS 25 84 hS0 rfl rfl (by kernel_rfl) (by kernel_rfl) (by kernel_rfl) (by kernel_rfl) (wanted_undef (j := 20) (d := 79) (bb := false) rfl rfl rfl (by simp [eval_put_ne, eval_put_eq, size_put, hts]) (by simp [size_put, hts])) (fun _ _ _ h => h) ?_
                    refine tkNS 26 85 hS0 rfl rfl (by kernel_rfl) (by kernel_rfl) (by kernel_rfl) (by kernel_rfl) (wanted_undef (j := 20) (d := 79) (bb := false) rfl rfl rfl (by simp [eval_put_ne, eval_put_eq, size_put, hts]) (by simp [size_put, hts])) (fun _ _ _ h => h) ?_
                    refine tkNS 27 86 hS0 rfl rfl (by kernel_rfl) (by kernel_rfl) (by kernel_rfl) (by kernel_rfl) (wanted_undef (j := 20) (d := 79) (bb := false) rfl rfl rfl (by simp [eval_put_ne, eval_put_eq, size_put, hts]) (by simp [size_put, hts])) (fun _ _ _ h => h) ?_
                    refine tkNS 28 87 hS0 rfl rfl (by kernel_rfl) (by kernel_rfl) (by kernel_rfl) (by kernel_rfl) (wanted_undef (j := 20) (d := 79) (bb := false) rfl rfl rfl (by simp [eval_put_ne, eval_put_eq, size_put, hts]) (by simp [size_put, hts])) (fun _ _ _ h => h) ?_
                    refine tkNS 29 88 hS0 rfl rfl (by kernel_rfl) (by kernel_rfl) (by kernel_rfl) (by kernel_rfl) (wanted_undef (j := 20) (d := 79) (bb := false) rfl rfl rfl (by simp [eval_put_ne, eval_put_eq, size_put, hts]) (by simp [size_put, hts])) (fun _ _ _ h => h) ?_
                    refine tkNS 30 89 hS0 rfl rfl (by kernel_rfl) (by kernel_rfl) (by kernel_rfl) (by kernel_rfl) (wanted_undef (j := 20) (d := 79) (bb := false) rfl rfl rfl (by simp [eval_put_ne, eval_put_eq, size_put, hts]) (by simp [size_put, hts])) (fun _ _ _ h => h) ?_
                    refine tkNS 31 90 hS0 rfl rfl (by kernel_rfl) (by kernel_rfl) (by kernel_rfl) (by kernel_rfl) (wanted_not (j := 17) (d := 76) (bb := true) rfl rfl rfl (by simp [eval_put_ne, eval_put_eq, size_put, hts]) (by simp [size_put, hts])) (fun _ _ _ h => h) ?_
                    refine tkS 32 91 (v := .bool false) hS0 rfl rfl (by kernel_rfl) (by kernel_rfl) (by kernel_rfl) (by kernel_rfl) (wanted_none rfl) (fun _ _ _ h => h) (fun U hU => r_pickF (by simp [eval_put_ne, eval_put_eq, size_put, hts]) rfl) ?_
                    refine tkS 33 3 (v := .bool false) hS0 rfl rfl (by kernel_rfl) (by kernel_rfl) (by kernel_rfl) (by kernel_rfl) (wanted_none rfl) (fun _ _ _ h => h) (fun U hU => r_assign (by simp [eval_put_ne, eval_put_eq, size_put, hts])) ?_
                    refine doneS (by kernel_rfl) ?_
                    have hkr3 := hkr2.trans hkw (fun _ _ h => h)
                    clear c5w
                    clear hS0 hkw hheap
                    rw [hfr.out]
                    clear hfr e1 e3 e4 e5 hts
                    simp only [put_lit, put_none, List.set_cons_succ, List.set_cons_zero]
                    go_wp2
                    go_roundw
                    case rel => exact ⟨false, k + 1, rfl, by simp, by omega, HT.out, hkr3⟩
                    case measure => simp [intOf]; omega
                  | true =>
                    exact absurd HI.out (by simp)
                · obtain rfl : n = k := by omega
                  have HG : Hid (b3 = (false && goodFrom (-1) (l.map Wv.wr))) := hide (by have h := HI.out; rw [List.take_of_length_le (by rw [← Hn.out]; exact Nat.le_refl _)] at h; exact h)
                  have c0 : wr.cell? ⟨b0, 0, none⟩ = some (.int .i64 kd) := (hkr.blk HB1.out (fun h => h)).cell 0
                  have c2 : wr.cell? ⟨b0, 2, none⟩ = some (.int .i64 nm) := (hkr.blk HB1.out (fun h => h)).cell 2
                  have HKr := hide (HK1.out.trans hkr (fun _ _ h => h))
                  clear HI hkr hlt hk
                  cases b3 with
                  | false =>
                    obtain rfl : b = false := by
                      rw [← HB.out]
                      by_cases h3 : kd = 3
                      · rw [h3, rightR_3, HTN.out, Bool.and_right_comm, ← HG.out]; rfl
                      · exact rightR_no (by omega) (by omega) h3
                    go_wp2
                    go_ret
                    exact ⟨by first | rfl | (simp; done) | (simp; omega), HKr.out⟩
                  | true => exact absurd HG.out (by simp)
        · have h3' : nm < 0 := by omega
          have HTN : Hid (tnB tl nm = false) := hide (by unfold tnB; simp; omega)
          by_cases hk1 : kd = 1
          · subst hk1
            by_cases hl0 : n = 0
            · obtain rfl : b = false := by
                rw [← HB.out, rightR_1, HTN.out, List.length_map, ← Hn.out, hl0]
                rfl
              have hn0 : (n : Int) = 0 := by omega
              go_wp2
              go_ret
              exact ⟨by first | rfl | (simp; done) | (simp; omega), HK1.out⟩
            · obtain rfl : b = false := by
                rw [← HB.out, rightR_1, List.length_map, ← Hn.out, decide_eq_false hl0, Bool.and_false]
              have hn0 : ¬ (n : Int) = 0 := by omega
              go_wp2
              go_ret
              exact ⟨by first | rfl | (simp; done) | (simp; omega), HK1.out⟩
          · go_wp2
            go_loopw [3, 54] (fun bv kv W => ∃ (b3 : Bool) (k : Nat), bv = .bool b3 ∧ kv = .int .i64 k ∧ k ≤ n ∧ Hid (b3 = (false && goodFrom (-1) ((l.take k).map Wv.wr))) ∧ Kept (fun _ => False) w1 W) (fun _ kv _ => n - (intOf kv).toNat)
            case atStart => exact ⟨false, 0, rfl, rfl, Nat.zero_le _, hide (by simp [goodFrom]), Kept.refl _ _⟩
            case round =>
              obtain ⟨b3, k, rfl, rfl, hk, HI, hkr⟩ := hrel
              by_cases hlt : k < n
              · have hkl : k < l.length := by rw [← Hn.out]; exact hlt
                obtain ⟨g, off, rfl, c0, c1, hsrc, hnl⟩ := ((HW.out.kept HK1.out).kept hkr).get hkl
                have HCells : Hid (∀ j (hj : j < l.length), Cells wr g (off + j * 2) [.int .i64 l[j].blk]) := hide (fun j hj => by
                  obtain ⟨g', off', e, c, _⟩ := ((HW.out.kept HK1.out).kept hkr).get hj
                  cases e
                  exact cell_one c)
                have HStep := hide (good_take hkl)
                have HPrev : Hid (∀ j (hj : j + 1 = k), lastB (-1) ((l.take k).map Wv.wr) = (l[j]'(by omega)).blk) := hide (fun j hj => by subst hj; exact lastB_take (by omega))
                obtain ⟨x, hx⟩ : ∃ x, x = l[k] := ⟨_, rfl⟩
                rw [← hx] at c0 c1 HStep hnl
                obtain ⟨p, ⟨ya, yn, yc⟩, yB⟩ := x
                simp only [Wv.wr] at c0 c1 HStep hnl
                have Hyl : Hid (yn = yB.length) := hide hnl
                have Hx := hide hx
                clear hx hsrc hnl
                have e3 : wr.cell? ⟨b0, 3, none⟩ = some (.slice (some ⟨g, off, none⟩) n xc) := (hkr.blk HB1.out (fun h => h)).cell 3
                go_wp2_with (first
                  | ((with_reducible refine aw_alloc (t := 40) Hi40.out Hz40.out ?_); intro w3 hw3 hk3 hz3; have Yz3 := hide hz3; clear hz3 c0 c1)
                  | ((with_reducible refine aw_store (M := [.int .i64 p, .slice ya yn yc]) Try.agg40 rfl rfl rfl (by simp [Value.oneCell']) hw3 (by simp [Value.cells]) ?_); intro w4 hw4 hk4 hz4; rw [put_whole _ _ (by simp [Value.cells])] at hw4; have hkrr : Kept (fun _ => False) wr w4 := hk3.trans hk4 (fun i hi h => by omega); have hkr2 := hkr.trans hkrr (fun _ _ h => h); clear hz4)
                  | fail)
                obtain ⟨b5, hb5⟩ : ∃ b, b = wr.heap.size := ⟨_, rfl⟩
                rw [← hb5] at hw4 ⊢
                have HC5 : Hid (Cells w4 b5 0 [.int .i64 p, .slice ya yn yc]) := hide (fun i u hi => by rw [Nat.zero_add, hw4.cell]; exact hi)
                have HC0 : Hid (Cells w4 b0 3 [.slice (some ⟨g, off, none⟩) n xc]) := hide (cell_one ((hkr2.blk HB1.out (fun h => h)).cell 3))
                have HCj4 : Hid (∀ j (hj : j < l.length), Cells w4 g (off + j * 2) [.int .i64 l[j].blk]) := hide (fun j hj => hkrr.cells (HCells.out j hj) (fun h => h))
                clear hw3 hw4 hk3 hk4 hkr hkrr hb5 Yz3 HCells e3
                cases b3 with
                | false =>
                  have HT : Hid (false = (false && goodFrom (-1) ((l.take (k + 1)).map Wv.wr))) := hide (by rw [HStep.out, ← Bool.and_assoc, ← HI.out]; rfl)
                  clear HStep HI
                  go_wp2
                  refine hold_frame (p := fun fr => Code.wp Try.prog _ _ fr _) ?_
                  intro fr hfr
                  have e1 : fr.eval (.tmp 1) = .pointer (some ⟨b0, 0, none⟩) := by rw [hfr.out]; rfl
                  have e3 : fr.eval (.tmp 3) = .bool false := by rw [hfr.out]; rfl
                  have e4 : fr.eval (.tmp 4) = .int .i64 ((k : Nat) : Int) := by rw [hfr.out]; rfl
                  have e5 : fr.eval (.tmp 5) = .pointer (some ⟨b5, 0, none⟩) := by rw [hfr.out]; rfl
                  have hts : fr.tmps.size = 104 := by rw [hfr.out]; rfl
                  refine region_S0 99 Try.mixed ?_
                  intro w0 hkw hheap
                  have c5w := hkw.cells HC5.out (fun h => h)
                  have hS0 : Kept (fun _ => False) w0 w0 := Kept.refl (fun _ => False) w0
                  refine ⟨Kept (fun _ => False) w0, ?_⟩
                  refine tkS 0 59 (v := .bool false) hS0 rfl rfl (by kernel_rfl) (by kernel_rfl) (by kernel_rfl) (by kernel_rfl) (wanted_none rfl) (fun _ _ _ h => h) (fun U hU => r_move (by simp [eval_put_ne, eval_put_eq, size_put, hts, e3])) ?_
                  refine tkS 1 60 (v := .bool false) hS0 rfl rfl (by kernel_rfl) (by kernel_rfl) (by kernel_rfl) (by kernel_rfl) (wanted_none rfl) (fun _ _ _ h => h) (fun U hU => r_move (by simp [eval_put_ne, eval_put_eq, size_put, hts])) ?_
                  refine tkNS 2 61 hS0 rfl rfl (by kernel_rfl) (by kernel_rfl) (by kernel_rfl) (by kernel_rfl) (wanted_not (j := 1) (d := 60) (bb := true) rfl rfl rfl (by simp [eval_put_ne, eval_put_eq, size_put, hts]) (by simp [size_put, hts])) (fun _ _ _ h => h) ?_
                  refine tkNS 3 62 hS0 rfl rfl (by kernel_rfl) (by kernel_rfl) (by kernel_rfl) (by kernel_rfl) (wanted_not (j := 1) (d := 60) (bb := true) rfl rfl rfl (by simp [eval_put_ne, eval_put_eq, size_put, hts]) (by simp [size_put, hts])) (fun _ _ _ h => h) ?_
                  refine tkNS 4 63 hS0 rfl rfl (by kernel_rfl) (by kernel_rfl) (by kernel_rfl) (by kernel_rfl) (wanted_not (j := 1) (d := 60) (bb := true) rfl rfl rfl (by simp [eval_put_ne, eval_put_eq, size_put, hts]) (by simp [size_put, hts])) (fun _ _ _ h => h) ?_
                  refine tkS 5 64 (v := .bool false) hS0 rfl rfl (by kernel_rfl) (by kernel_rfl) (by kernel_rfl) (by kernel_rfl) (wanted_none rfl) (fun _ _ _ h => h) (fun U hU => r_pickF (by simp [eval_put_ne, eval_put_eq, size_put, hts]) rfl) ?_
                  refine tkS 6 65 (v := .bool false) hS0 rfl rfl (by kernel_rfl) (by kernel_rfl) (by kernel_rfl) (by kernel_rfl) (wanted_none rfl) (fun _ _ _ h => h) (fun U hU => r_move (by simp [eval_put_ne, eval_put_eq, size_put, hts])) ?_
                  refine tkNS 7 66 hS0 rfl rfl (by kernel_rfl) (by kernel_rfl) (by kernel_rfl) (by kernel_rfl) (wanted_not (j := 6) (d := 65) (bb := true) rfl rfl rfl (by simp [eval_put_ne, eval_put_eq, size_put, hts]) (by simp [size_put, hts])) (fun _ _ _ h => h) ?_
                  refine tkNS 8 67 hS0 rfl rfl (by kernel_rfl) (by kernel_rfl) (by kernel_rfl) (by kernel_rfl) (wanted_not (j := 6) (d := 65) (bb := true) rfl rfl rfl (by simp [eval_put_ne, eval_put_eq, size_put, hts]) (by simp [size_put, hts])) (fun _ _ _ h => h) ?_
                  refine tkNS 9 68 hS0 rfl rfl (by kernel_rfl) (by kernel_rfl) (by kernel_rfl) (by kernel_rfl) (wanted_not (j := 6) (d := 65) (bb := true) rfl rfl rfl (by simp [eval_put_ne, eval_put_eq, size_put, hts]) (by simp [size_put, hts])) (fun _ _ _ h => h) ?_
                  refine tkS 10 69 (v := .bool false) hS0 rfl rfl (by kernel_rfl) (by kernel_rfl) (by kernel_rfl) (by kernel_rfl) (wanted_none rfl) (fun _ _ _ h => h) (fun U hU => r_pickF (by simp [eval_put_ne, eval_put_eq, size_put, hts]) rfl) ?_
                  refine tkS 11 70 (v := .bool false) hS0 rfl rfl (by kernel_rfl) (by kernel_rfl) (by kernel_rfl) (by kernel_rfl) (wanted_none rfl) (fun _ _ _ h => h) (fun U hU => r_move (by simp [eval_put_ne, eval_put_eq, size_put, hts])) ?_
                  refine tkNS 12 71 hS0 rfl rfl (by kernel_rfl) (by kernel_rfl) (by kernel_rfl) (by kernel_rfl) (wanted_not (j := 11) (d := 70) (bb := true) rfl rfl rfl (by simp [eval_put_ne, eval_put_eq, size_put, hts]) (by simp [size_put, hts])) (fun _ _ _ h => h) ?_
                  refine tkNS 13 72 hS0 rfl rfl (by kernel_rfl) (by kernel_rfl) (by kernel_rfl) (by kernel_rfl) (wanted_not (j := 11) (d := 70) (bb := true) rfl rfl rfl (by simp [eval_put_ne, eval_put_eq, size_put, hts]) (by simp [size_put, hts])) (fun _ _ _ h => h) ?_
                  refine tkNS 14 73 hS0 rfl rfl (by kernel_rfl) (by kernel_rfl) (by kernel_rfl) (by kernel_rfl) (wanted_not (j := 11) (d := 70) (bb := true) rfl rfl rfl (by simp [eval_put_ne, eval_put_eq, size_put, hts]) (by simp [size_put, hts])) (fun _ _ _ h => h) ?_
                  refine tkNS 15 74 hS0 rfl rfl (by kernel_rfl) (by kernel_rfl) (by kernel_rfl) (by kernel_rfl) (wanted_not (j := 11) (d := 70) (bb := true) rfl rfl rfl (by simp [eval_put_ne, eval_put_eq, size_put, hts]) (by simp [size_put, hts])) (fun _ _ _ h => h) ?_
                  refine tkS 16 75 (v := .bool false) hS0 rfl rfl (by kernel_rfl) (by kernel_rfl) (by kernel_rfl) (by kernel_rfl) (wanted_none rfl) (fun _ _ _ h => h) (fun U hU => r_pickF (by simp [eval_put_ne, eval_put_eq, size_put, hts]) rfl) ?_
                  refine tkS 17 76 (v := .bool false) hS0 rfl rfl (by kernel_rfl) (by kernel_rfl) (by kernel_rfl) (by kernel_rfl) (wanted_none rfl) (fun _ _ _ h => h) (fun U hU => r_move (by simp [eval_put_ne, eval_put_eq, size_put, hts])) ?_
                  refine tkNS 18 77 hS0 rfl rfl (by kernel_rfl) (by kernel_rfl) (by kernel_rfl) (by kernel_rfl) (wanted_not (j := 17) (d := 76) (bb := true) rfl rfl rfl (by simp [eval_put_ne, eval_put_eq, size_put, hts]) (by simp [size_put, hts])) (fun _ _ _ h => h) ?_
                  refine tkNS 19 78 hS0 rfl rfl (by kernel_rfl) (by kernel_rfl) (by kernel_rfl) (by kernel_rfl) (wanted_not (j := 17) (d := 76) (bb := true) rfl rfl rfl (by simp [eval_put_ne, eval_put_eq, size_put, hts]) (by simp [size_put, hts])) (fun _ _ _ h => h) ?_
                  refine tkNS 20 79 hS0 rfl rfl (by kernel_rfl) (by kernel_rfl) (by kernel_rfl) (by kernel_rfl) (wanted_not (j := 17) (d := 76) (bb := true) rfl rfl rfl (by simp [eval_put_ne, eval_put_eq, size_put, hts]) (by simp [size_put, hts])) (fun _ _ _ h => h) ?_
                  refine tkNS 21 80 hS0 rfl rfl (by kernel_rfl) (by kernel_rfl) (by kernel_rfl) (by kernel_rfl) (wanted_undef (j := 20) (d := 79) (bb := false) rfl rfl rfl (by simp [eval_put_ne, eval_put_eq, size_put, hts]) (by simp [size_put, hts])) (fun _ _ _ h => h) ?_
                  refine tkNS 22 81 hS0 rfl rfl (by kernel_rfl) (by kernel_rfl) (by kernel_rfl) (by kernel_rfl) (wanted_undef (j := 20) (d := 79) (bb := false) rfl rfl rfl (by simp [eval_put_ne, eval_put_eq, size_put, hts]) (by simp [size_put, hts])) (fun _ _ _ h => h) ?_
                  refine tkNS 23 82 hS0 rfl rfl (by kernel_rfl) (by kernel_rfl) (by kernel_rfl) (by kernel_rfl) (wanted_undef (j := 20) (d := 79) (bb := false) rfl rfl rfl (by simp [eval_put_ne, eval_put_eq, size_put, hts]) (by simp [size_put, hts])) (fun _ _ _ h => h) ?_
                  refine tkNS 24 83 hS0 rfl rfl (by kernel_rfl) (by kernel_rfl) (by kernel_rfl) (by kernel_rfl) (wanted_undef (j := 20) (d := 79) (bb := false) rfl rfl rfl (by simp [eval_put_ne, eval_put_eq, size_put, hts]) (by simp [size_put, hts])) (fun _ _ _ h => h) ?_
                  refine tkNS 25 84 hS0 rfl rfl (by kernel_rfl) (by kernel_rfl) (by kernel_rfl) (by kernel_rfl) (wanted_undef (j := 20) (d := 79) (bb := false) rfl rfl rfl (by simp [eval_put_ne, eval_put_eq, size_put, hts]) (by simp [size_put, hts])) (fun _ _ _ h => h) ?_
                  refine tkNS 26 85 hS0 rfl rfl (by kernel_rfl) (by kernel_rfl) (by kernel_rfl) (by kernel_rfl) (wanted_undef (j := 20) (d := 79) (bb := false) rfl rfl rfl (by simp [eval_put_ne, eval_put_eq, size_put, hts]) (by simp [size_put, hts])) (fun _ _ _ h => h) ?_
                  refine tkNS 27 86 hS0 rfl rfl (by kernel_rfl) (by kernel_rfl) (by kernel_rfl) (by kernel_rfl) (wanted_undef (j := 20) (d := 79) (bb := false) rfl rfl rfl (by simp [eval_put_ne, eval_put_eq, size_put, hts]) (by simp [size_put, hts])) (fun _ _ _ h => h) ?_
                  refine tkNS 28 87 hS0 rfl rfl (by kernel_rfl) (by kernel_rfl) (by kernel_rfl) (by kernel_rfl) (wanted_undef (j := 20) (d := 79) (bb := false) rfl rfl rfl (by simp [eval_put_ne, eval_put_eq, size_put, hts]) (by simp [size_put, hts])) (fun _ _ _ h => h) ?_
                  refine tkNS 29 88 hS0 rfl rfl (by kernel_rfl) (by kernel_rfl) (by kernel_rfl) (by kernel_rfl) (wanted_undef (j := 20) (d := 79) (bb := false) rfl rfl rfl (by simp [eval_put_ne, eval_put_eq, size_put, hts]) (by simp [size_put, hts])) (fun _ _ _ h => h) ?_
                  refine tkNS 30 89 hS0 rfl rfl (by kernel_rfl) (by kernel_rfl) (by kernel_rfl) (by kernel_rfl) (wanted_undef (j := 20) (d := 79) (bb := false) rfl rfl rfl (by simp [eval_put_ne, eval_put_eq, size_put, hts]) (by simp [size_put, hts])) (fun _ _ _ h => h) ?_
                  refine tkNS 31 90 hS0 rfl rfl (by kernel_rfl) (by kernel_rfl) (by kernel_rfl) (by kernel_rfl) (wanted_not (j := 17) (d := 76) (bb := true) rfl rfl rfl (by simp [eval_put_ne, eval_put_eq, size_put, hts]) (by simp [size_put, hts])) (fun _ _ _ h => h) ?_
                  refine tkS 32 91 (v := .bool false) hS0 rfl rfl (by kernel_rfl) (by kernel_rfl) (by kernel_rfl) (by kernel_rfl) (wanted_none rfl) (fun _ _ _ h => h) (fun U hU => r_pickF (by simp [eval_put_ne, eval_put_eq, size_put, hts]) rfl) ?_
                  refine tkS 33 3 (v := .bool false) hS0 rfl rfl (by kernel_rfl) (by kernel_rfl) (by kernel_rfl) (by kernel_rfl) (wanted_none rfl) (fun _ _ _ h => h) (fun U hU => r_assign (by simp [eval_put_ne, eval_put_eq, size_put, hts])) ?_
                  refine doneS (by kernel_rfl) ?_
                  have hkr3 := hkr2.trans hkw (fun _ _ h => h)
                  clear c5w
                  clear hS0 hkw hheap
                  rw [hfr.out]
                  clear hfr e1 e3 e4 e5 hts
                  simp only [put_lit, put_none, List.set_cons_succ, List.set_cons_zero]
                  go_wp2
                  go_roundw
                  case rel => exact ⟨false, k + 1, rfl, by simp, by omega, HT.out, hkr3⟩
                  case measure => simp [intOf]; omega
                | true =>
                  exact absurd HI.out (by simp)
              · obtain rfl : n = k := by omega
                have HG : Hid (b3 = (false && goodFrom (-1) (l.map Wv.wr))) := hide (by have h := HI.out; rw [List.take_of_length_le (by rw [← Hn.out]; exact Nat.le_refl _)] at h; exact h)
                have c0 : wr.cell? ⟨b0, 0, none⟩ = some (.int .i64 kd) := (hkr.blk HB1.out (fun h => h)).cell 0
                have c2 : wr.cell? ⟨b0, 2, none⟩ = some (.int .i64 nm) := (hkr.blk HB1.out (fun h => h)).cell 2
                have HKr := hide (HK1.out.trans hkr (fun _ _ h => h))
                clear HI hkr hlt hk
                cases b3 with
                | false =>
                  obtain rfl : b = false := by
                    rw [← HB.out]
                    by_cases h3 : kd = 3
                    · rw [h3, rightR_3, HTN.out, Bool.and_right_comm, ← HG.out]; rfl
                    · exact rightR_no (by omega) (by omega) h3
                  go_wp2
                  go_ret
                  exact ⟨by first | rfl | (simp; done) | (simp; omega), HKr.out⟩
                | true => exact absurd HG.out (by simp)
      · have h2' : 2147483647 < tl := by omega
        have HTN : Hid (tnB tl nm = false) := hide (by unfold tnB; simp; omega)
        by_cases hk1 : kd = 1
        · subst hk1
          by_cases hl0 : n = 0
          · obtain rfl : b = false := by
              rw [← HB.out, rightR_1, HTN.out, List.length_map, ← Hn.out, hl0]
              rfl
            have hn0 : (n : Int) = 0 := by omega
            go_wp2
            go_ret
            exact ⟨by first | rfl | (simp; done) | (simp; omega), HK1.out⟩
          · obtain rfl : b = false := by
              rw [← HB.out, rightR_1, List.length_map, ← Hn.out, decide_eq_false hl0, Bool.and_false]
            have hn0 : ¬ (n : Int) = 0 := by omega
            go_wp2
            go_ret
            exact ⟨by first | rfl | (simp; done) | (simp; omega), HK1.out⟩
        · go_wp2
          go_loopw [3, 54] (fun bv kv W => ∃ (b3 : Bool) (k : Nat), bv = .bool b3 ∧ kv = .int .i64 k ∧ k ≤ n ∧ Hid (b3 = (false && goodFrom (-1) ((l.take k).map Wv.wr))) ∧ Kept (fun _ => False) w1 W) (fun _ kv _ => n - (intOf kv).toNat)
          case atStart => exact ⟨false, 0, rfl, rfl, Nat.zero_le _, hide (by simp [goodFrom]), Kept.refl _ _⟩
          case round =>
            obtain ⟨b3, k, rfl, rfl, hk, HI, hkr⟩ := hrel
            by_cases hlt : k < n
            · have hkl : k < l.length := by rw [← Hn.out]; exact hlt
              obtain ⟨g, off, rfl, c0, c1, hsrc, hnl⟩ := ((HW.out.kept HK1.out).kept hkr).get hkl
              have HCells : Hid (∀ j (hj : j < l.length), Cells wr g (off + j * 2) [.int .i64 l[j].blk]) := hide (fun j hj => by
                obtain ⟨g', off', e, c, _⟩ := ((HW.out.kept HK1.out).kept hkr).get hj
                cases e
                exact cell_one c)
              have HStep := hide (good_take hkl)
              have HPrev : Hid (∀ j (hj : j + 1 = k), lastB (-1) ((l.take k).map Wv.wr) = (l[j]'(by omega)).blk) := hide (fun j hj => by subst hj; exact lastB_take (by omega))
              obtain ⟨x, hx⟩ : ∃ x, x = l[k] := ⟨_, rfl⟩
              rw [← hx] at c0 c1 HStep hnl
              obtain ⟨p, ⟨ya, yn, yc⟩, yB⟩ := x
              simp only [Wv.wr] at c0 c1 HStep hnl
              have Hyl : Hid (yn = yB.length) := hide hnl
              have Hx := hide hx
              clear hx hsrc hnl
              have e3 : wr.cell? ⟨b0, 3, none⟩ = some (.slice (some ⟨g, off, none⟩) n xc) := (hkr.blk HB1.out (fun h => h)).cell 3
              go_wp2_with (first
                | ((with_reducible refine aw_alloc (t := 40) Hi40.out Hz40.out ?_); intro w3 hw3 hk3 hz3; have Yz3 := hide hz3; clear hz3 c0 c1)
                | ((with_reducible refine aw_store (M := [.int .i64 p, .slice ya yn yc]) Try.agg40 rfl rfl rfl (by simp [Value.oneCell']) hw3 (by simp [Value.cells]) ?_); intro w4 hw4 hk4 hz4; rw [put_whole _ _ (by simp [Value.cells])] at hw4; have hkrr : Kept (fun _ => False) wr w4 := hk3.trans hk4 (fun i hi h => by omega); have hkr2 := hkr.trans hkrr (fun _ _ h => h); clear hz4)
                | fail)
              obtain ⟨b5, hb5⟩ : ∃ b, b = wr.heap.size := ⟨_, rfl⟩
              rw [← hb5] at hw4 ⊢
              have HC5 : Hid (Cells w4 b5 0 [.int .i64 p, .slice ya yn yc]) := hide (fun i u hi => by rw [Nat.zero_add, hw4.cell]; exact hi)
              have HC0 : Hid (Cells w4 b0 3 [.slice (some ⟨g, off, none⟩) n xc]) := hide (cell_one ((hkr2.blk HB1.out (fun h => h)).cell 3))
              have HCj4 : Hid (∀ j (hj : j < l.length), Cells w4 g (off + j * 2) [.int .i64 l[j].blk]) := hide (fun j hj => hkrr.cells (HCells.out j hj) (fun h => h))
              clear hw3 hw4 hk3 hk4 hkr hkrr hb5 Yz3 HCells e3
              cases b3 with
              | false =>
                have HT : Hid (false = (false && goodFrom (-1) ((l.take (k + 1)).map Wv.wr))) := hide (by rw [HStep.out, ← Bool.and_assoc, ← HI.out]; rfl)
                clear HStep HI
                go_wp2
                refine hold_frame (p := fun fr => Code.wp Try.prog _ _ fr _) ?_
                intro fr hfr
                have e1 : fr.eval (.tmp 1) = .pointer (some ⟨b0, 0, none⟩) := by rw [hfr.out]; rfl
                have e3 : fr.eval (.tmp 3) = .bool false := by rw [hfr.out]; rfl
                have e4 : fr.eval (.tmp 4) = .int .i64 ((k : Nat) : Int) := by rw [hfr.out]; rfl
                have e5 : fr.eval (.tmp 5) = .pointer (some ⟨b5, 0, none⟩) := by rw [hfr.out]; rfl
                have hts : fr.tmps.size = 104 := by rw [hfr.out]; rfl
                refine region_S0 99 Try.mixed ?_
                intro w0 hkw hheap
                have c5w := hkw.cells HC5.out (fun h => h)
                have hS0 : Kept (fun _ => False) w0 w0 := Kept.refl (fun _ => False) w0
                refine ⟨Kept (fun _ => False) w0, ?_⟩
                refine tkS 0 59 (v := .bool false) hS0 rfl rfl (by kernel_rfl) (by kernel_rfl) (by kernel_rfl) (by kernel_rfl) (wanted_none rfl) (fun _ _ _ h => h) (fun U hU => r_move (by simp [eval_put_ne, eval_put_eq, size_put, hts, e3])) ?_
                refine tkS 1 60 (v := .bool false) hS0 rfl rfl (by kernel_rfl) (by kernel_rfl) (by kernel_rfl) (by kernel_rfl) (wanted_none rfl) (fun _ _ _ h => h) (fun U hU => r_move (by simp [eval_put_ne, eval_put_eq, size_put, hts])) ?_
                refine tkNS 2 61 hS0 rfl rfl (by kernel_rfl) (by kernel_rfl) (by kernel_rfl) (by kernel_rfl) (wanted_not (j := 1) (d := 60) (bb := true) rfl rfl rfl (by simp [eval_put_ne, eval_put_eq, size_put, hts]) (by simp [size_put, hts])) (fun _ _ _ h => h) ?_
                refine tkNS 3 62 hS0 rfl rfl (by kernel_rfl) (by kernel_rfl) (by kernel_rfl) (by kernel_rfl) (wanted_not (j := 1) (d := 60) (bb := true) rfl rfl rfl (by simp [eval_put_ne, eval_put_eq, size_put, hts]) (by simp [size_put, hts])) (fun _ _ _ h => h) ?_
                refine tkNS 4 63 hS0 rfl rfl (by kernel_rfl) (by kernel_rfl) (by kernel_rfl) (by kernel_rfl) (wanted_not (j := 1) (d := 60) (bb := true) rfl rfl rfl (by simp [eval_put_ne, eval_put_eq, size_put, hts]) (by simp [size_put, hts])) (fun _ _ _ h => h) ?_
                refine tkS 5 64 (v := .bool false) hS0 rfl rfl (by kernel_rfl) (by kernel_rfl) (by kernel_rfl) (by kernel_rfl) (wanted_none rfl) (fun _ _ _ h => h) (fun U hU => r_pickF (by simp [eval_put_ne, eval_put_eq, size_put, hts]) rfl) ?_
                refine tkS 6 65 (v := .bool false) hS0 rfl rfl (by kernel_rfl) (by kernel_rfl) (by kernel_rfl) (by kernel_rfl) (wanted_none rfl) (fun _ _ _ h => h) (fun U hU => r_move (by simp [eval_put_ne, eval_put_eq, size_put, hts])) ?_
                refine tkNS 7 66 hS0 rfl rfl (by kernel_rfl) (by kernel_rfl) (by kernel_rfl) (by kernel_rfl) (wanted_not (j := 6) (d := 65) (bb := true) rfl rfl rfl (by simp [eval_put_ne, eval_put_eq, size_put, hts]) (by simp [size_put, hts])) (fun _ _ _ h => h) ?_
                refine tkNS 8 67 hS0 rfl rfl (by kernel_rfl) (by kernel_rfl) (by kernel_rfl) (by kernel_rfl) (wanted_not (j := 6) (d := 65) (bb := true) rfl rfl rfl (by simp [eval_put_ne, eval_put_eq, size_put, hts]) (by simp [size_put, hts])) (fun _ _ _ h => h) ?_
                refine tkNS 9 68 hS0 rfl rfl (by kernel_rfl) (by kernel_rfl) (by kernel_rfl) (by kernel_rfl) (wanted_not (j := 6) (d := 65) (bb := true) rfl rfl rfl (by simp [eval_put_ne, eval_put_eq, size_put, hts]) (by simp [size_put, hts])) (fun _ _ _ h => h) ?_
                refine tkS 10 69 (v := .bool false) hS0 rfl rfl (by kernel_rfl) (by kernel_rfl) (by kernel_rfl) (by kernel_rfl) (wanted_none rfl) (fun _ _ _ h => h) (fun U hU => r_pickF (by simp [eval_put_ne, eval_put_eq, size_put, hts]) rfl) ?_
                refine tkS 11 70 (v := .bool false) hS0 rfl rfl (by kernel_rfl) (by kernel_rfl) (by kernel_rfl) (by kernel_rfl) (wanted_none rfl) (fun _ _ _ h => h) (fun U hU => r_move (by simp [eval_put_ne, eval_put_eq, size_put, hts])) ?_
                refine tkNS 12 71 hS0 rfl rfl (by kernel_rfl) (by kernel_rfl) (by kernel_rfl) (by kernel_rfl) (wanted_not (j := 11) (d := 70) (bb := true) rfl rfl rfl (by simp [eval_put_ne, eval_put_eq, size_put, hts]) (by simp [size_put, hts])) (fun _ _ _ h => h) ?_
                refine tkNS 13 72 hS0 rfl rfl (by kernel_rfl) (by kernel_rfl) (by kernel_rfl) (by kernel_rfl) (wanted_not (j := 11) (d := 70) (bb := true) rfl rfl rfl (by simp [eval_put_ne, eval_put_eq, size_put, hts]) (by simp [size_put, hts])) (fun _ _ _ h => h) ?_
                refine tkNS 14 73 hS0 rfl rfl (by kernel_rfl) (by kernel_rfl) (by kernel_rfl) (by kernel_rfl) (wanted_not (j := 11) (d := 70) (bb := true) rfl rfl rfl (by simp [eval_put_ne, eval_put_eq, size_put, hts]) (by simp [size_put, hts])) (fun _ _ _ h => h) ?_
                refine tkNS 15 74 hS0 rfl rfl (by kernel_rfl) (by kernel_rfl) (by kernel_rfl) (by kernel_rfl) (wanted_not (j := 11) (d := 70) (bb := true) rfl rfl rfl (by simp [eval_put_ne, eval_put_eq, size_put, hts]) (by simp [size_put, hts])) (fun _ _ _ h => h) ?_
                refine tkS 16 75 (v := .bool false) hS0 rfl rfl (by kernel_rfl) (by kernel_rfl) (by kernel_rfl) (by kernel_rfl) (wanted_none rfl) (fun _ _ _ h => h) (fun U hU => r_pickF (by simp [eval_put_ne, eval_put_eq, size_put, hts]) rfl) ?_
                refine tkS 17 76 (v := .bool false) hS0 rfl rfl (by kernel_rfl) (by kernel_rfl) (by kernel_rfl) (by kernel_rfl) (wanted_none rfl) (fun _ _ _ h => h) (fun U hU => r_move (by simp [eval_put_ne, eval_put_eq, size_put, hts])) ?_
                refine tkNS 18 77 hS0 rfl rfl (by kernel_rfl) (by kernel_rfl) (by kernel_rfl) (by kernel_rfl) (wanted_not (j := 17) (d := 76) (bb := true) rfl rfl rfl (by simp [eval_put_ne, eval_put_eq, size_put, hts]) (by simp [size_put, hts])) (fun _ _ _ h => h) ?_
                refine tkNS 19 78 hS0 rfl rfl (by kernel_rfl) (by kernel_rfl) (by kernel_rfl) (by kernel_rfl) (wanted_not (j := 17) (d := 76) (bb := true) rfl rfl rfl (by simp [eval_put_ne, eval_put_eq, size_put, hts]) (by simp [size_put, hts])) (fun _ _ _ h => h) ?_
                refine tkNS 20 79 hS0 rfl rfl (by kernel_rfl) (by kernel_rfl) (by kernel_rfl) (by kernel_rfl) (wanted_not (j := 17) (d := 76) (bb := true) rfl rfl rfl (by simp [eval_put_ne, eval_put_eq, size_put, hts]) (by simp [size_put, hts])) (fun _ _ _ h => h) ?_
                refine tkNS 21 80 hS0 rfl rfl (by kernel_rfl) (by kernel_rfl) (by kernel_rfl) (by kernel_rfl) (wanted_undef (j := 20) (d := 79) (bb := false) rfl rfl rfl (by simp [eval_put_ne, eval_put_eq, size_put, hts]) (by simp [size_put, hts])) (fun _ _ _ h => h) ?_
                refine tkNS 22 81 hS0 rfl rfl (by kernel_rfl) (by kernel_rfl) (by kernel_rfl) (by kernel_rfl) (wanted_undef (j := 20) (d := 79) (bb := false) rfl rfl rfl (by simp [eval_put_ne, eval_put_eq, size_put, hts]) (by simp [size_put, hts])) (fun _ _ _ h => h) ?_
                refine tkNS 23 82 hS0 rfl rfl (by kernel_rfl) (by kernel_rfl) (by kernel_rfl) (by kernel_rfl) (wanted_undef (j := 20) (d := 79) (bb := false) rfl rfl rfl (by simp [eval_put_ne, eval_put_eq, size_put, hts]) (by simp [size_put, hts])) (fun _ _ _ h => h) ?_
                refine tkNS 24 83 hS0 rfl rfl (by kernel_rfl) (by kernel_rfl) (by kernel_rfl) (by kernel_rfl) (wanted_undef (j := 20) (d := 79) (bb := false) rfl rfl rfl (by simp [eval_put_ne, eval_put_eq, size_put, hts]) (by simp [size_put, hts])) (fun _ _ _ h => h) ?_
                refine tkNS 25 84 hS0 rfl rfl (by kernel_rfl) (by kernel_rfl) (by kernel_rfl) (by kernel_rfl) (wanted_undef (j := 20) (d := 79) (bb := false) rfl rfl rfl (by simp [eval_put_ne, eval_put_eq, size_put, hts]) (by simp [size_put, hts])) (fun _ _ _ h => h) ?_
                refine tkNS 26 85 hS0 rfl rfl (by kernel_rfl) (by kernel_rfl) (by kernel_rfl) (by kernel_rfl) (wanted_undef (j := 20) (d := 79) (bb := false) rfl rfl rfl (by simp [eval_put_ne, eval_put_eq, size_put, hts]) (by simp [size_put, hts])) (fun _ _ _ h => h) ?_
                refine tkNS 27 86 hS0 rfl rfl (by kernel_rfl) (by kernel_rfl) (by kernel_rfl) (by kernel_rfl) (wanted_undef (j := 20) (d := 79) (bb := false) rfl rfl rfl (by simp [eval_put_ne, eval_put_eq, size_put, hts]) (by simp [size_put, hts])) (fun _ _ _ h => h) ?_
                refine tkNS 28 87 hS0 rfl rfl (by kernel_rfl) (by kernel_rfl) (by kernel_rfl) (by kernel_rfl) (wanted_undef (j := 20) (d := 79) (bb := false) rfl rfl rfl (by simp [eval_put_ne, eval_put_eq, size_put, hts]) (by simp [size_put, hts])) (fun _ _ _ h => h) ?_
                refine tkNS 29 88 hS0 rfl rfl (by kernel_rfl) (by kernel_rfl) (by kernel_rfl) (by kernel_rfl) (wanted_undef (j := 20) (d := 79) (bb := false) rfl rfl rfl (by simp [eval_put_ne, eval_put_eq, size_put, hts]) (by simp [size_put, hts])) (fun _ _ _ h => h) ?_
                refine tkNS 30 89 hS0 rfl rfl (by kernel_rfl) (by kernel_rfl) (by kernel_rfl) (by kernel_rfl) (wanted_undef (j := 20) (d := 79) (bb := false) rfl rfl rfl (by simp [eval_put_ne, eval_put_eq, size_put, hts]) (by simp [size_put, hts])) (fun _ _ _ h => h) ?_
                refine tkNS 31 90 hS0 rfl rfl (by kernel_rfl) (by kernel_rfl) (by kernel_rfl) (by kernel_rfl) (wanted_not (j := 17) (d := 76) (bb := true) rfl rfl rfl (by simp [eval_put_ne, eval_put_eq, size_put, hts]) (by simp [size_put, hts])) (fun _ _ _ h => h) ?_
                refine tkS 32 91 (v := .bool false) hS0 rfl rfl (by kernel_rfl) (by kernel_rfl) (by kernel_rfl) (by kernel_rfl) (wanted_none rfl) (fun _ _ _ h => h) (fun U hU => r_pickF (by simp [eval_put_ne, eval_put_eq, size_put, hts]) rfl) ?_
                refine tkS 33 3 (v := .bool false) hS0 rfl rfl (by kernel_rfl) (by kernel_rfl) (by kernel_rfl) (by kernel_rfl) (wanted_none rfl) (fun _ _ _ h => h) (fun U hU => r_assign (by simp [eval_put_ne, eval_put_eq, size_put, hts])) ?_
                refine doneS (by kernel_rfl) ?_
                have hkr3 := hkr2.trans hkw (fun _ _ h => h)
                clear c5w
                clear hS0 hkw hheap
                rw [hfr.out]
                clear hfr e1 e3 e4 e5 hts
                simp only [put_lit, put_none, List.set_cons_succ, List.set_cons_zero]
                go_wp2
                go_roundw
                case rel => exact ⟨false, k + 1, rfl, by simp, by omega, HT.out, hkr3⟩
                case measure => simp [intOf]; omega
              | true =>
                exact absurd HI.out (by simp)
            · obtain rfl : n = k := by omega
              have HG : Hid (b3 = (false && goodFrom (-1) (l.map Wv.wr))) := hide (by have h := HI.out; rw [List.take_of_length_le (by rw [← Hn.out]; exact Nat.le_refl _)] at h; exact h)
              have c0 : wr.cell? ⟨b0, 0, none⟩ = some (.int .i64 kd) := (hkr.blk HB1.out (fun h => h)).cell 0
              have c2 : wr.cell? ⟨b0, 2, none⟩ = some (.int .i64 nm) := (hkr.blk HB1.out (fun h => h)).cell 2
              have HKr := hide (HK1.out.trans hkr (fun _ _ h => h))
              clear HI hkr hlt hk
              cases b3 with
              | false =>
                obtain rfl : b = false := by
                  rw [← HB.out]
                  by_cases h3 : kd = 3
                  · rw [h3, rightR_3, HTN.out, Bool.and_right_comm, ← HG.out]; rfl
                  · exact rightR_no (by omega) (by omega) h3
                go_wp2
                go_ret
                exact ⟨by first | rfl | (simp; done) | (simp; omega), HKr.out⟩
              | true => exact absurd HG.out (by simp)
    · have h1' : tl < 1 := by omega
      have HTN : Hid (tnB tl nm = false) := hide (by unfold tnB; simp; omega)
      by_cases hk1 : kd = 1
      · subst hk1
        by_cases hl0 : n = 0
        · obtain rfl : b = false := by
            rw [← HB.out, rightR_1, HTN.out, List.length_map, ← Hn.out, hl0]
            rfl
          have hn0 : (n : Int) = 0 := by omega
          go_wp2
          go_ret
          exact ⟨by first | rfl | (simp; done) | (simp; omega), HK1.out⟩
        · obtain rfl : b = false := by
            rw [← HB.out, rightR_1, List.length_map, ← Hn.out, decide_eq_false hl0, Bool.and_false]
          have hn0 : ¬ (n : Int) = 0 := by omega
          go_wp2
          go_ret
          exact ⟨by first | rfl | (simp; done) | (simp; omega), HK1.out⟩
      · go_wp2
        go_loopw [3, 54] (fun bv kv W => ∃ (b3 : Bool) (k : Nat), bv = .bool b3 ∧ kv = .int .i64 k ∧ k ≤ n ∧ Hid (b3 = (false && goodFrom (-1) ((l.take k).map Wv.wr))) ∧ Kept (fun _ => False) w1 W) (fun _ kv _ => n - (intOf kv).toNat)
        case atStart => exact ⟨false, 0, rfl, rfl, Nat.zero_le _, hide (by simp [goodFrom]), Kept.refl _ _⟩
        case round =>
          obtain ⟨b3, k, rfl, rfl, hk, HI, hkr⟩ := hrel
          by_cases hlt : k < n
          · have hkl : k < l.length := by rw [← Hn.out]; exact hlt
            obtain ⟨g, off, rfl, c0, c1, hsrc, hnl⟩ := ((HW.out.kept HK1.out).kept hkr).get hkl
            have HCells : Hid (∀ j (hj : j < l.length), Cells wr g (off + j * 2) [.int .i64 l[j].blk]) := hide (fun j hj => by
              obtain ⟨g', off', e, c, _⟩ := ((HW.out.kept HK1.out).kept hkr).get hj
              cases e
              exact cell_one c)
            have HStep := hide (good_take hkl)
            have HPrev : Hid (∀ j (hj : j + 1 = k), lastB (-1) ((l.take k).map Wv.wr) = (l[j]'(by omega)).blk) := hide (fun j hj => by subst hj; exact lastB_take (by omega))
            obtain ⟨x, hx⟩ : ∃ x, x = l[k] := ⟨_, rfl⟩
            rw [← hx] at c0 c1 HStep hnl
            obtain ⟨p, ⟨ya, yn, yc⟩, yB⟩ := x
            simp only [Wv.wr] at c0 c1 HStep hnl
            have Hyl : Hid (yn = yB.length) := hide hnl
            have Hx := hide hx
            clear hx hsrc hnl
            have e3 : wr.cell? ⟨b0, 3, none⟩ = some (.slice (some ⟨g, off, none⟩) n xc) := (hkr.blk HB1.out (fun h => h)).cell 3
            go_wp2_with (first
              | ((with_reducible refine aw_alloc (t := 40) Hi40.out Hz40.out ?_); intro w3 hw3 hk3 hz3; have Yz3 := hide hz3; clear hz3 c0 c1)
              | ((with_reducible refine aw_store (M := [.int .i64 p, .slice ya yn yc]) Try.agg40 rfl rfl rfl (by simp [Value.oneCell']) hw3 (by simp [Value.cells]) ?_); intro w4 hw4 hk4 hz4; rw [put_whole _ _ (by simp [Value.cells])] at hw4; have hkrr : Kept (fun _ => False) wr w4 := hk3.trans hk4 (fun i hi h => by omega); have hkr2 := hkr.trans hkrr (fun _ _ h => h); clear hz4)
              | fail)
            obtain ⟨b5, hb5⟩ : ∃ b, b = wr.heap.size := ⟨_, rfl⟩
            rw [← hb5] at hw4 ⊢
            have HC5 : Hid (Cells w4 b5 0 [.int .i64 p, .slice ya yn yc]) := hide (fun i u hi => by rw [Nat.zero_add, hw4.cell]; exact hi)
            have HC0 : Hid (Cells w4 b0 3 [.slice (some ⟨g, off, none⟩) n xc]) := hide (cell_one ((hkr2.blk HB1.out (fun h => h)).cell 3))
            have HCj4 : Hid (∀ j (hj : j < l.length), Cells w4 g (off + j * 2) [.int .i64 l[j].blk]) := hide (fun j hj => hkrr.cells (HCells.out j hj) (fun h => h))
            clear hw3 hw4 hk3 hk4 hkr hkrr hb5 Yz3 HCells e3
            cases b3 with
            | false =>
              have HT : Hid (false = (false && goodFrom (-1) ((l.take (k + 1)).map Wv.wr))) := hide (by rw [HStep.out, ← Bool.and_assoc, ← HI.out]; rfl)
              clear HStep HI
              go_wp2
              refine hold_frame (p := fun fr => Code.wp Try.prog _ _ fr _) ?_
              intro fr hfr
              have e1 : fr.eval (.tmp 1) = .pointer (some ⟨b0, 0, none⟩) := by rw [hfr.out]; rfl
              have e3 : fr.eval (.tmp 3) = .bool false := by rw [hfr.out]; rfl
              have e4 : fr.eval (.tmp 4) = .int .i64 ((k : Nat) : Int) := by rw [hfr.out]; rfl
              have e5 : fr.eval (.tmp 5) = .pointer (some ⟨b5, 0, none⟩) := by rw [hfr.out]; rfl
              have hts : fr.tmps.size = 104 := by rw [hfr.out]; rfl
              refine region_S0 99 Try.mixed ?_
              intro w0 hkw hheap
              have c5w := hkw.cells HC5.out (fun h => h)
              have hS0 : Kept (fun _ => False) w0 w0 := Kept.refl (fun _ => False) w0
              refine ⟨Kept (fun _ => False) w0, ?_⟩
              refine tkS 0 59 (v := .bool false) hS0 rfl rfl (by kernel_rfl) (by kernel_rfl) (by kernel_rfl) (by kernel_rfl) (wanted_none rfl) (fun _ _ _ h => h) (fun U hU => r_move (by simp [eval_put_ne, eval_put_eq, size_put, hts, e3])) ?_
              refine tkS 1 60 (v := .bool false) hS0 rfl rfl (by kernel_rfl) (by kernel_rfl) (by kernel_rfl) (by kernel_rfl) (wanted_none rfl) (fun _ _ _ h => h) (fun U hU => r_move (by simp [eval_put_ne, eval_put_eq, size_put, hts])) ?_
              refine tkNS 2 61 hS0 rfl rfl (by kernel_rfl) (by kernel_rfl) (by kernel_rfl) (by kernel_rfl) (wanted_not (j := 1) (d := 60) (bb := true) rfl rfl rfl (by simp [eval_put_ne, eval_put_eq, size_put, hts]) (by simp [size_put, hts])) (fun _ _ _ h => h) ?_
              refine tkNS 3 62 hS0 rfl rfl (by kernel_rfl) (by kernel_rfl) (by kernel_rfl) (by kernel_rfl) (wanted_not (j := 1) (d := 60) (bb := true) rfl rfl rfl (by simp [eval_put_ne, eval_put_eq, size_put, hts]) (by simp [size_put, hts])) (fun _ _ _ h => h) ?_
              refine tkNS 4 63 hS0 rfl rfl (by kernel_rfl) (by kernel_rfl) (by kernel_rfl) (by kernel_rfl) (wanted_not (j := 1) (d := 60) (bb := true) rfl rfl rfl (by simp [eval_put_ne, eval_put_eq, size_put, hts]) (by simp [size_put, hts])) (fun _ _ _ h => h) ?_
              refine tkS 5 64 (v := .bool false) hS0 rfl rfl (by kernel_rfl) (by kernel_rfl) (by kernel_rfl) (by kernel_rfl) (wanted_none rfl) (fun _ _ _ h => h) (fun U hU => r_pickF (by simp [eval_put_ne, eval_put_eq, size_put, hts]) rfl) ?_
              refine tkS 6 65 (v := .bool false) hS0 rfl rfl (by kernel_rfl) (by kernel_rfl) (by kernel_rfl) (by kernel_rfl) (wanted_none rfl) (fun _ _ _ h => h) (fun U hU => r_move (by simp [eval_put_ne, eval_put_eq, size_put, hts])) ?_
              refine tkNS 7 66 hS0 rfl rfl (by kernel_rfl) (by kernel_rfl) (by kernel_rfl) (by kernel_rfl) (wanted_not (j := 6) (d := 65) (bb := true) rfl rfl rfl (by simp [eval_put_ne, eval_put_eq, size_put, hts]) (by simp [size_put, hts])) (fun _ _ _ h => h) ?_
              refine tkNS 8 67 hS0 rfl rfl (by kernel_rfl) (by kernel_rfl) (by kernel_rfl) (by kernel_rfl) (wanted_not (j := 6) (d := 65) (bb := true) rfl rfl rfl (by simp [eval_put_ne, eval_put_eq, size_put, hts]) (by simp [size_put, hts])) (fun _ _ _ h => h) ?_
              refine tkNS 9 68 hS0 rfl rfl (by kernel_rfl) (by kernel_rfl) (by kernel_rfl) (by kernel_rfl) (wanted_not (j := 6) (d := 65) (bb := true) rfl rfl rfl (by simp [eval_put_ne, eval_put_eq, size_put, hts]) (by simp [size_put, hts])) (fun _ _ _ h => h) ?_
              refine tkS 10 69 (v := .bool false) hS0 rfl rfl (by kernel_rfl) (by kernel_rfl) (by kernel_rfl) (by kernel_rfl) (wanted_none rfl) (fun _ _ _ h => h) (fun U hU => r_pickF (by simp [eval_put_ne, eval_put_eq, size_put, hts]) rfl) ?_
              refine tkS 11 70 (v := .bool false) hS0 rfl rfl (by kernel_rfl) (by kernel_rfl) (by kernel_rfl) (by kernel_rfl) (wanted_none rfl) (fun _ _ _ h => h) (fun U hU => r_move (by simp [eval_put_ne, eval_put_eq, size_put, hts])) ?_
              refine tkNS 12 71 hS0 rfl rfl (by kernel_rfl) (by kernel_rfl) (by kernel_rfl) (by kernel_rfl) (wanted_not (j := 11) (d := 70) (bb := true) rfl rfl rfl (by simp [eval_put_ne, eval_put_eq, size_put, hts]) (by simp [size_put, hts])) (fun _ _ _ h => h) ?_
              refine tkNS 13 72 hS0 rfl rfl (by kernel_rfl) (by kernel_rfl) (by kernel_rfl) (by kernel_rfl) (wanted_not (j := 11) (d := 70) (bb := true) rfl rfl rfl (by simp [eval_put_ne, eval_put_eq, size_put, hts]) (by simp [size_put, hts])) (fun _ _ _ h => h) ?_
              refine tkNS 14 73 hS0 rfl rfl (by kernel_rfl) (by kernel_rfl) (by kernel_rfl) (by kernel_rfl) (wanted_not (j := 11) (d := 70) (bb := true) rfl rfl rfl (by simp [eval_put_ne, eval_put_eq, size_put, hts]) (by simp [size_put, hts])) (fun _ _ _ h => h) ?_
              refine tkNS 15 74 hS0 rfl rfl (by kernel_rfl) (by kernel_rfl) (by kernel_rfl) (by kernel_rfl) (wanted_not (j := 11) (d := 70) (bb := true) rfl rfl rfl (by simp [eval_put_ne, eval_put_eq, size_put, hts]) (by simp [size_put, hts])) (fun _ _ _ h => h) ?_
              refine tkS 16 75 (v := .bool false) hS0 rfl rfl (by kernel_rfl) (by kernel_rfl) (by kernel_rfl) (by kernel_rfl) (wanted_none rfl) (fun _ _ _ h => h) (fun U hU => r_pickF (by simp [eval_put_ne, eval_put_eq, size_put, hts]) rfl) ?_
              refine tkS 17 76 (v := .bool false) hS0 rfl rfl (by kernel_rfl) (by kernel_rfl) (by kernel_rfl) (by kernel_rfl) (wanted_none rfl) (fun _ _ _ h => h) (fun U hU => r_move (by simp [eval_put_ne, eval_put_eq, size_put, hts])) ?_
              refine tkNS 18 77 hS0 rfl rfl (by kernel_rfl) (by kernel_rfl) (by kernel_rfl) (by kernel_rfl) (wanted_not (j := 17) (d := 76) (bb := true) rfl rfl rfl (by simp [eval_put_ne, eval_put_eq, size_put, hts]) (by simp [size_put, hts])) (fun _ _ _ h => h) ?_
              refine tkNS 19 78 hS0 rfl rfl (by kernel_rfl) (by kernel_rfl) (by kernel_rfl) (by kernel_rfl) (wanted_not (j := 17) (d := 76) (bb := true) rfl rfl rfl (by simp [eval_put_ne, eval_put_eq, size_put, hts]) (by simp [size_put, hts])) (fun _ _ _ h => h) ?_
              refine tkNS 20 79 hS0 rfl rfl (by kernel_rfl) (by kernel_rfl) (by kernel_rfl) (by kernel_rfl) (wanted_not (j := 17) (d := 76) (bb := true) rfl rfl rfl (by simp [eval_put_ne, eval_put_eq, size_put, hts]) (by simp [size_put, hts])) (fun _ _ _ h => h) ?_
              refine tkNS 21 80 hS0 rfl rfl (by kernel_rfl) (by kernel_rfl) (by kernel_rfl) (by kernel_rfl) (wanted_undef (j := 20) (d := 79) (bb := false) rfl rfl rfl (by simp [eval_put_ne, eval_put_eq, size_put, hts]) (by simp [size_put, hts])) (fun _ _ _ h => h) ?_
              refine tkNS 22 81 hS0 rfl rfl (by kernel_rfl) (by kernel_rfl) (by kernel_rfl) (by kernel_rfl) (wanted_undef (j := 20) (d := 79) (bb := false) rfl rfl rfl (by simp [eval_put_ne, eval_put_eq, size_put, hts]) (by simp [size_put, hts])) (fun _ _ _ h => h) ?_
              refine tkNS 23 82 hS0 rfl rfl (by kernel_rfl) (by kernel_rfl) (by kernel_rfl) (by kernel_rfl) (wanted_undef (j := 20) (d := 79) (bb := false) rfl rfl rfl (by simp [eval_put_ne, eval_put_eq, size_put, hts]) (by simp [size_put, hts])) (fun _ _ _ h => h) ?_
              refine tkNS 24 83 hS0 rfl rfl (by kernel_rfl) (by kernel_rfl) (by kernel_rfl) (by kernel_rfl) (wanted_undef (j := 20) (d := 79) (bb := false) rfl rfl rfl (by simp [eval_put_ne, eval_put_eq, size_put, hts]) (by simp [size_put, hts])) (fun _ _ _ h => h) ?_
              refine tkNS 25 84 hS0 rfl rfl (by kernel_rfl) (by kernel_rfl) (by kernel_rfl) (by kernel_rfl) (wanted_undef (j := 20) (d := 79) (bb := false) rfl rfl rfl (by simp [eval_put_ne, eval_put_eq, size_put, hts]) (by simp [size_put, hts])) (fun _ _ _ h => h) ?_
              refine tkNS 26 85 hS0 rfl rfl (by kernel_rfl) (by kernel_rfl) (by kernel_rfl) (by kernel_rfl) (wanted_undef (j := 20) (d := 79) (bb := false) rfl rfl rfl (by simp [eval_put_ne, eval_put_eq, size_put, hts]) (by simp [size_put, hts])) (fun _ _ _ h => h) ?_
              refine tkNS 27 86 hS0 rfl rfl (by kernel_rfl) (by kernel_rfl) (by kernel_rfl) (by kernel_rfl) (wanted_undef (j := 20) (d := 79) (bb := false) rfl rfl rfl (by simp [eval_put_ne, eval_put_eq, size_put, hts]) (by simp [size_put, hts])) (fun _ _ _ h => h) ?_
              refine tkNS 28 87 hS0 rfl rfl (by kernel_rfl) (by kernel_rfl) (by kernel_rfl) (by kernel_rfl) (wanted_undef (j := 20) (d := 79) (bb := false) rfl rfl rfl (by simp [eval_put_ne, eval_put_eq, size_put, hts]) (by simp [size_put, hts])) (fun _ _ _ h => h) ?_
              refine tkNS 29 88 hS0 rfl rfl (by kernel_rfl) (by kernel_rfl) (by kernel_rfl) (by kernel_rfl) (wanted_undef (j := 20) (d := 79) (bb := false) rfl rfl rfl (by simp [eval_put_ne, eval_put_eq, size_put, hts]) (by simp [size_put, hts])) (fun _ _ _ h => h) ?_
              refine tkNS 30 89 hS0 rfl rfl (by kernel_rfl) (by kernel_rfl) (by kernel_rfl) (by kernel_rfl) (wanted_undef (j := 20) (d := 79) (bb := false) rfl rfl rfl (by simp [eval_put_ne, eval_put_eq, size_put, hts]) (by simp [size_put, hts])) (fun _ _ _ h => h) ?_
              refine tkNS 31 90 hS0 rfl rfl (by kernel_rfl) (by kernel_rfl) (by kernel_rfl) (by kernel_rfl) (wanted_not (j := 17) (d := 76) (bb := true) rfl rfl rfl (by simp [eval_put_ne, eval_put_eq, size_put, hts]) (by simp [size_put, hts])) (fun _ _ _ h => h) ?_
              refine tkS 32 91 (v := .bool false) hS0 rfl rfl (by kernel_rfl) (by kernel_rfl) (by kernel_rfl) (by kernel_rfl) (wanted_none rfl) (fun _ _ _ h => h) (fun U hU => r_pickF (by simp [eval_put_ne, eval_put_eq, size_put, hts]) rfl) ?_
              refine tkS 33 3 (v := .bool false) hS0 rfl rfl (by kernel_rfl) (by kernel_rfl) (by kernel_rfl) (by kernel_rfl) (wanted_none rfl) (fun _ _ _ h => h) (fun U hU => r_assign (by simp [eval_put_ne, eval_put_eq, size_put, hts])) ?_
              refine doneS (by kernel_rfl) ?_
              have hkr3 := hkr2.trans hkw (fun _ _ h => h)
              clear c5w
              clear hS0 hkw hheap
              rw [hfr.out]
              clear hfr e1 e3 e4 e5 hts
              simp only [put_lit, put_none, List.set_cons_succ, List.set_cons_zero]
              go_wp2
              go_roundw
              case rel => exact ⟨false, k + 1, rfl, by simp, by omega, HT.out, hkr3⟩
              case measure => simp [intOf]; omega
            | true =>
              exact absurd HI.out (by simp)
          · obtain rfl : n = k := by omega
            have HG : Hid (b3 = (false && goodFrom (-1) (l.map Wv.wr))) := hide (by have h := HI.out; rw [List.take_of_length_le (by rw [← Hn.out]; exact Nat.le_refl _)] at h; exact h)
            have c0 : wr.cell? ⟨b0, 0, none⟩ = some (.int .i64 kd) := (hkr.blk HB1.out (fun h => h)).cell 0
            have c2 : wr.cell? ⟨b0, 2, none⟩ = some (.int .i64 nm) := (hkr.blk HB1.out (fun h => h)).cell 2
            have HKr := hide (HK1.out.trans hkr (fun _ _ h => h))
            clear HI hkr hlt hk
            cases b3 with
            | false =>
              obtain rfl : b = false := by
                rw [← HB.out]
                by_cases h3 : kd = 3
                · rw [h3, rightR_3, HTN.out, Bool.and_right_comm, ← HG.out]; rfl
                · exact rightR_no (by omega) (by omega) h3
              go_wp2
              go_ret
              exact ⟨by first | rfl | (simp; done) | (simp; omega), HKr.out⟩
            | true => exact absurd HG.out (by simp)
theorem rright_at (w : World) (x : Rv) (h : RcAt w x) (b : Bool) (hb : rightR x.rc = b) : Calls Try.prog 9 #[x.agg] w fun e w' => e = .returned (.bool b) ∧ Kept (fun _ => False) w w' :=
  rrightP_at w x.kd x.tl x.nm x.s.a x.s.n x.s.c x.ws h h.2.2 b hb
end Go.Proofs.Ytcdlgaknpmlfeaa
