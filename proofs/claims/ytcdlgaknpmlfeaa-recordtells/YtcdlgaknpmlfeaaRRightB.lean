/-
  Right, of package record.
-/
import Derived.Test.YtcdlgaknpmlfeaaRRight
namespace Go.Proofs.Ytcdlgaknpmlfeaa
open Go.RowKit Go.Shelf
set_option linter.unusedSimpArgs false
set_option linter.unusedVariables false

set_option maxRecDepth 100000 in
set_option maxHeartbeats 4000000 in
theorem rightP_at (w : World) (kd tl nm : Int) (s : Sl) (l : List Wv) (h : WsAt w s.v l) (b : Bool) (hb : rightR ⟨kd, tl, nm, l.map Wv.wr⟩ = b) :
    Calls Try.prog 14 #[rAgg kd tl nm s] w fun e w' => e = .returned (.bool b) ∧ Kept (fun _ => False) w w' := by
  obtain ⟨xa, xn, xc⟩ := s
  obtain rfl : xn = l.length := WsAt.len h
  have HB := hide hb
  have HW := hide h
  have hmax := h.2.2
  clear hb h
  obtain ⟨tb, htb⟩ : ∃ tb, tb = tnB tl nm := ⟨_, rfl⟩
  have HT : Hid (tb = tnB tl nm) := hide htb
  have HP : Hid (∀ w, Calls Try.prog 30 #[.int .i64 tl, .int .i64 nm] w fun e w' => e = .returned (.bool tb) ∧ w = w') := hide (fun w => by rw [HT.out]; exact place_at w tl nm)
  clear htb
  by_cases h2 : kd = 2
  · subst h2
    have hb : b = decide (tl = 0 ∧ nm = 0 ∧ l.length = 0) := by rw [← HB.out]; simp [rightR]
    clear HP HT HB
    have Hb := hide hb
    clear hb
    by_cases g1 : tl = 0
    · by_cases g2 : nm = 0
      · by_cases g3 : l.length = 0
        · have g3' : ((l.length : Nat) : Int) = 0 := by omega
          obtain rfl : b = true := by rw [Hb.out]; simp [g1, g2, g3]
          subst g1 g2
          have HG := hide g3
          clear g3 Hb
          go_enter Try.func14, Try.ntmps14
          go_wp2_with (first
            | ((with_reducible refine aw_box (t := 24) (v := rAgg 2 0 0 ⟨xa, l.length, xc⟩) rfl ?_); intro w1 hb1 hk1 hz1; have c0 : w1.cell? ⟨w.heap.size, 0, none⟩ = some (.int .i64 2) := hb1.cell 0; have c1 : w1.cell? ⟨w.heap.size, 1, none⟩ = some (.int .i64 0) := hb1.cell 1; have c2 : w1.cell? ⟨w.heap.size, 2, none⟩ = some (.int .i64 0) := hb1.cell 2; have c3 : w1.cell? ⟨w.heap.size, 3, none⟩ = some (.slice xa l.length xc) := hb1.cell 3; clear hz1 hb1)
            | fail)
          go_ret
          exact ⟨by simp [HG.out], hk1⟩
        · have g3' : ¬ ((l.length : Nat) : Int) = 0 := by omega
          obtain rfl : b = false := by rw [Hb.out]; simp [g3]
          subst g1 g2
          have HG := hide g3
          clear g3 Hb
          go_enter Try.func14, Try.ntmps14
          go_wp2_with (first
            | ((with_reducible refine aw_box (t := 24) (v := rAgg 2 0 0 ⟨xa, l.length, xc⟩) rfl ?_); intro w1 hb1 hk1 hz1; have c0 : w1.cell? ⟨w.heap.size, 0, none⟩ = some (.int .i64 2) := hb1.cell 0; have c1 : w1.cell? ⟨w.heap.size, 1, none⟩ = some (.int .i64 0) := hb1.cell 1; have c2 : w1.cell? ⟨w.heap.size, 2, none⟩ = some (.int .i64 0) := hb1.cell 2; have c3 : w1.cell? ⟨w.heap.size, 3, none⟩ = some (.slice xa l.length xc) := hb1.cell 3; clear hz1 hb1)
            | fail)
          go_ret
          have g3 := HG.out
          exact ⟨by simp; intro e; exact g3 (by simp [e]), hk1⟩
      · obtain rfl : b = false := by rw [Hb.out]; simp [g2]
        subst g1
        clear Hb
        go_enter Try.func14, Try.ntmps14
        go_wp2_with (first
          | ((with_reducible refine aw_box (t := 24) (v := rAgg 2 0 nm ⟨xa, l.length, xc⟩) rfl ?_); intro w1 hb1 hk1 hz1; have c0 : w1.cell? ⟨w.heap.size, 0, none⟩ = some (.int .i64 2) := hb1.cell 0; have c1 : w1.cell? ⟨w.heap.size, 1, none⟩ = some (.int .i64 0) := hb1.cell 1; have c2 : w1.cell? ⟨w.heap.size, 2, none⟩ = some (.int .i64 nm) := hb1.cell 2; have c3 : w1.cell? ⟨w.heap.size, 3, none⟩ = some (.slice xa l.length xc) := hb1.cell 3; clear hz1 hb1)
          | fail)
        go_ret
        exact ⟨by simp, hk1⟩
    · obtain rfl : b = false := by rw [Hb.out]; simp [g1]
      clear Hb
      go_enter Try.func14, Try.ntmps14
      go_wp2_with (first
        | ((with_reducible refine aw_box (t := 24) (v := rAgg 2 tl nm ⟨xa, l.length, xc⟩) rfl ?_); intro w1 hb1 hk1 hz1; have c0 : w1.cell? ⟨w.heap.size, 0, none⟩ = some (.int .i64 2) := hb1.cell 0; have c1 : w1.cell? ⟨w.heap.size, 1, none⟩ = some (.int .i64 tl) := hb1.cell 1; have c2 : w1.cell? ⟨w.heap.size, 2, none⟩ = some (.int .i64 nm) := hb1.cell 2; have c3 : w1.cell? ⟨w.heap.size, 3, none⟩ = some (.slice xa l.length xc) := hb1.cell 3; clear hz1 hb1)
        | fail)
      go_ret
      exact ⟨by simp, hk1⟩
  · by_cases h1 : kd = 1
    · subst h1
      have hb : b = (tb && decide (l.length = 0)) := by rw [← HB.out, HT.out]; simp [rightR, tnOk, tnB]
      have Hb := hide hb
      clear hb HB HT
      cases tb with
      | false =>
        obtain rfl : b = false := by rw [Hb.out]; rfl
        clear Hb
        go_enter Try.func14, Try.ntmps14
        go_wp2_with (first
          | ((with_reducible refine aw_box (t := 24) (v := rAgg 1 tl nm ⟨xa, l.length, xc⟩) rfl ?_); intro w1 hb1 hk1 hz1; have c0 : w1.cell? ⟨w.heap.size, 0, none⟩ = some (.int .i64 1) := hb1.cell 0; have c1 : w1.cell? ⟨w.heap.size, 1, none⟩ = some (.int .i64 tl) := hb1.cell 1; have c2 : w1.cell? ⟨w.heap.size, 2, none⟩ = some (.int .i64 nm) := hb1.cell 2; have c3 : w1.cell? ⟨w.heap.size, 3, none⟩ = some (.slice xa l.length xc) := hb1.cell 3; clear hz1 hb1)
          | fail)
        refine (HP.out _).mono ?_
        rintro e w2 ⟨rfl, rfl⟩
        go_wp2
        go_ret
        exact ⟨by simp, hk1⟩
      | true =>
        by_cases g3 : l.length = 0
        · obtain rfl : b = true := by rw [Hb.out]; simp [g3]
          have g3' : ((l.length : Nat) : Int) = 0 := by omega
          have HG := hide g3
          clear Hb g3
          go_enter Try.func14, Try.ntmps14
          go_wp2_with (first
            | ((with_reducible refine aw_box (t := 24) (v := rAgg 1 tl nm ⟨xa, l.length, xc⟩) rfl ?_); intro w1 hb1 hk1 hz1; have c0 : w1.cell? ⟨w.heap.size, 0, none⟩ = some (.int .i64 1) := hb1.cell 0; have c1 : w1.cell? ⟨w.heap.size, 1, none⟩ = some (.int .i64 tl) := hb1.cell 1; have c2 : w1.cell? ⟨w.heap.size, 2, none⟩ = some (.int .i64 nm) := hb1.cell 2; have c3 : w1.cell? ⟨w.heap.size, 3, none⟩ = some (.slice xa l.length xc) := hb1.cell 3; clear hz1 hb1)
            | fail)
          refine (HP.out _).mono ?_
          rintro e w2 ⟨rfl, rfl⟩
          go_wp2
          go_ret
          exact ⟨by simp [HG.out], hk1⟩
        · obtain rfl : b = false := by rw [Hb.out]; simp [g3]
          have g3' : ¬ ((l.length : Nat) : Int) = 0 := by omega
          have HG := hide g3
          clear Hb g3
          go_enter Try.func14, Try.ntmps14
          go_wp2_with (first
            | ((with_reducible refine aw_box (t := 24) (v := rAgg 1 tl nm ⟨xa, l.length, xc⟩) rfl ?_); intro w1 hb1 hk1 hz1; have c0 : w1.cell? ⟨w.heap.size, 0, none⟩ = some (.int .i64 1) := hb1.cell 0; have c1 : w1.cell? ⟨w.heap.size, 1, none⟩ = some (.int .i64 tl) := hb1.cell 1; have c2 : w1.cell? ⟨w.heap.size, 2, none⟩ = some (.int .i64 nm) := hb1.cell 2; have c3 : w1.cell? ⟨w.heap.size, 3, none⟩ = some (.slice xa l.length xc) := hb1.cell 3; clear hz1 hb1)
            | fail)
          refine (HP.out _).mono ?_
          rintro e w2 ⟨rfl, rfl⟩
          go_wp2
          go_ret
          have g3 := HG.out
          exact ⟨by simp; intro e; exact g3 (by simp [e]), hk1⟩
    · by_cases h3 : kd = 3
      · subst h3
        have hb : b = (tb && decide (0 < nm) && goodFrom (-1) (l.map Wv.wr)) := by rw [← HB.out, HT.out]; simp [rightR, tnOk, tnB]
        have Hb := hide hb
        clear hb HB
        cases htb : tb with
        | false =>
          subst htb
          obtain rfl : b = false := by rw [Hb.out]; rfl
          clear Hb HT
          go_enter Try.func14, Try.ntmps14
          go_wp2_with (first
            | ((with_reducible refine aw_box (t := 24) (v := rAgg 3 tl nm ⟨xa, l.length, xc⟩) rfl ?_); intro w1 hb1 hk1 hz1; have c0 : w1.cell? ⟨w.heap.size, 0, none⟩ = some (.int .i64 3) := hb1.cell 0; have c1 : w1.cell? ⟨w.heap.size, 1, none⟩ = some (.int .i64 tl) := hb1.cell 1; have c2 : w1.cell? ⟨w.heap.size, 2, none⟩ = some (.int .i64 nm) := hb1.cell 2; have c3 : w1.cell? ⟨w.heap.size, 3, none⟩ = some (.slice xa l.length xc) := hb1.cell 3; clear hz1 hb1)
            | fail)
          refine (HP.out _).mono ?_
          rintro e w2 ⟨rfl, rfl⟩
          go_wp2
          go_ret
          exact ⟨by simp, hk1⟩
        | true =>
          subst htb
          have hn0 : 0 ≤ nm := by have := HT.out.symm; unfold tnB at this; simp at this; omega
          clear HT
          by_cases g0 : nm = 0
          · subst g0
            obtain rfl : b = false := by rw [Hb.out]; simp
            clear Hb
            go_enter Try.func14, Try.ntmps14
            go_wp2_with (first
              | ((with_reducible refine aw_box (t := 24) (v := rAgg 3 tl 0 ⟨xa, l.length, xc⟩) rfl ?_); intro w1 hb1 hk1 hz1; have c0 : w1.cell? ⟨w.heap.size, 0, none⟩ = some (.int .i64 3) := hb1.cell 0; have c1 : w1.cell? ⟨w.heap.size, 1, none⟩ = some (.int .i64 tl) := hb1.cell 1; have c2 : w1.cell? ⟨w.heap.size, 2, none⟩ = some (.int .i64 0) := hb1.cell 2; have c3 : w1.cell? ⟨w.heap.size, 3, none⟩ = some (.slice xa l.length xc) := hb1.cell 3; clear hz1 hb1)
              | fail)
            refine (HP.out _).mono ?_
            rintro e w2 ⟨rfl, rfl⟩
            go_wp2
            go_ret
            exact ⟨by simp, hk1⟩
          · obtain rfl : b = goodFrom (-1) (l.map Wv.wr) := by
              rw [Hb.out]
              have : 0 < nm := by omega
              simp [this]
            clear Hb
            go_enter Try.func14, Try.ntmps14
            go_wp2_with (first
              | ((with_reducible refine aw_box (t := 24) (v := rAgg 3 tl nm ⟨xa, l.length, xc⟩) rfl ?_); intro w1 hb1 hk1 hz1; have c0 : w1.cell? ⟨w.heap.size, 0, none⟩ = some (.int .i64 3) := hb1.cell 0; have c1 : w1.cell? ⟨w.heap.size, 1, none⟩ = some (.int .i64 tl) := hb1.cell 1; have c2 : w1.cell? ⟨w.heap.size, 2, none⟩ = some (.int .i64 nm) := hb1.cell 2; have c3 : w1.cell? ⟨w.heap.size, 3, none⟩ = some (.slice xa l.length xc) := hb1.cell 3; clear hz1 hb1)
              | fail)
            refine (HP.out _).mono ?_
            rintro e w2 ⟨rfl, rfl⟩
            go_wp2_with fail
            refine (areRight_at _ _ l (HW.out.kept hk1)).mono ?_
            rintro e w2 ⟨rfl, hk2⟩
            go_wp2
            go_ret
            exact ⟨by simp [g0], hk1.trans hk2 (fun _ _ h => h)⟩
      · obtain rfl : b = false := by rw [← HB.out]; simp [rightR, h1, h2, h3]
        clear HB HT HP
        go_enter Try.func14, Try.ntmps14
        go_wp2_with (first
          | ((with_reducible refine aw_box (t := 24) (v := rAgg kd tl nm ⟨xa, l.length, xc⟩) rfl ?_); intro w1 hb1 hk1 hz1; have c0 : w1.cell? ⟨w.heap.size, 0, none⟩ = some (.int .i64 kd) := hb1.cell 0; clear hz1 hb1)
          | fail)
        go_ret
        exact ⟨by simp, hk1⟩
theorem right_at (w : World) (x : Rv) (h : RcAt w x) : Calls Try.prog 14 #[x.agg] w fun e w' => e = .returned (.bool (rightR x.rc)) ∧ Kept (fun _ => False) w w' :=
  rightP_at w x.kd x.tl x.nm x.s x.ws h _ rfl
end Go.Proofs.Ytcdlgaknpmlfeaa
