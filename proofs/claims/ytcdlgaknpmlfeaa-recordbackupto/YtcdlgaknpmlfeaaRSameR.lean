/-
  Same, of package record.
-/
import Derived.Test.YtcdlgaknpmlfeaaREq
namespace Go.Proofs.Ytcdlgaknpmlfeaa
open Go.RowKit Go.Shelf
set_option linter.unusedSimpArgs false
set_option linter.unusedVariables false

def sameR (x y : Rv) : Bool := decide (x.kd = y.kd ∧ x.tl = y.tl ∧ x.nm = y.nm) && sameWs x.ws y.ws
theorem sameR_iff (x y : Rv) : sameR x y = true ↔ x.rc = y.rc := by
  unfold sameR Rv.rc
  rw [Bool.and_eq_true, sameWs_iff]
  simp only [decide_eq_true_eq, Rc.mk.injEq]
  exact ⟨fun ⟨⟨a, b, c⟩, d⟩ => ⟨a, b, c, d⟩, fun ⟨a, b, c, d⟩ => ⟨⟨a, b, c⟩, d⟩⟩
set_option maxRecDepth 100000 in
set_option maxHeartbeats 4000000 in
theorem rsameP_at (w : World) (l e i : Int) (s : Sl) (l' e' i' : Int) (t : Sl) (A A' : List Wv) (hA : WsAt w s.v A) (hA' : WsAt w t.v A') (b : Bool) (hb : (decide (l = l' ∧ e = e' ∧ i = i') && sameWs A A') = b) :
    Calls Try.prog 17 #[rAgg l e i s, rAgg l' e' i' t] w fun e w' => e = .returned (.bool b) ∧ Kept (fun _ => False) w w' := by
  obtain ⟨sa, sn, sc⟩ := s
  obtain ⟨ta, tn, tc⟩ := t
  have Hb := hide hb
  have HA := hide hA
  have HA' := hide hA'
  clear hb hA hA'
  by_cases h1 : l = l'
  · have h1b : (l == l') = true := by simp; omega
    have H1 := hide h1
    clear h1
    by_cases h2 : e = e'
    · have h2b : (e == e') = true := by simp; omega
      have H2 := hide h2
      clear h2
      by_cases h3 : i = i'
      · have h3b : (i == i') = true := by simp; omega
        have H3 := hide h3
        clear h3
        have HC : Hid (sameWs A A' = b) := hide (by
          rw [← Hb.out]
          have h1 := H1.out
          have h2 := H2.out
          have h3 := H3.out
          simp [h1, h2, h3])
        clear Hb
        go_enter Try.func17, Try.ntmps17
        go_wp2_with (first
          | ((with_reducible refine aw_box (dst := some 2) (t := 24) (v := rAgg l e i ⟨sa, sn, sc⟩) rfl ?_); intro w1 hb1 hk1 hz1)
          | ((with_reducible refine aw_box (dst := some 3) (t := 24) (v := rAgg l' e' i' ⟨ta, tn, tc⟩) rfl ?_); intro w2 hb2 hk2 hz2; have c0 : w2.cell? ⟨w.heap.size, 0, none⟩ = some (.int .i64 l) := (hk2.blk hb1 (fun h => h)).cell 0; have c1 : w2.cell? ⟨w.heap.size, 1, none⟩ = some (.int .i64 e) := (hk2.blk hb1 (fun h => h)).cell 1; have c2 : w2.cell? ⟨w.heap.size, 2, none⟩ = some (.int .i64 i) := (hk2.blk hb1 (fun h => h)).cell 2; have c3 : w2.cell? ⟨w.heap.size, 3, none⟩ = some (.slice sa sn sc) := (hk2.blk hb1 (fun h => h)).cell 3; have d0 : w2.cell? ⟨w1.heap.size, 0, none⟩ = some (.int .i64 l') := hb2.cell 0; have d1 : w2.cell? ⟨w1.heap.size, 1, none⟩ = some (.int .i64 e') := hb2.cell 1; have d2 : w2.cell? ⟨w1.heap.size, 2, none⟩ = some (.int .i64 i') := hb2.cell 2; have d3 : w2.cell? ⟨w1.heap.size, 3, none⟩ = some (.slice ta tn tc) := hb2.cell 3; have hkk := hide (hk1.trans hk2 (fun _ _ h => h)); clear hb1 hb2 hk1 hk2 hz1 hz2)
          | fail)
        refine (eqf_at _ _ _ A A' (HA.out.kept hkk.out) (HA'.out.kept hkk.out) b HC.out).mono ?_
        rintro e w3 ⟨rfl, hk3⟩
        clear HC
        go_wp2
        go_ret
        exact ⟨by simp, hkk.out.trans hk3 (fun _ _ h => h)⟩
      · have h3b : (i == i') = false := by simp; omega
        have H3 := hide h3
        clear h3
        obtain rfl : b = false := by
          rw [← Hb.out]
          have h1 := H1.out
          have h2 := H2.out
          have h3 := H3.out
          simp [h1, h2, h3]
        clear Hb
        go_enter Try.func17, Try.ntmps17
        go_wp2_with (first
          | ((with_reducible refine aw_box (dst := some 2) (t := 24) (v := rAgg l e i ⟨sa, sn, sc⟩) rfl ?_); intro w1 hb1 hk1 hz1)
          | ((with_reducible refine aw_box (dst := some 3) (t := 24) (v := rAgg l' e' i' ⟨ta, tn, tc⟩) rfl ?_); intro w2 hb2 hk2 hz2; have c0 : w2.cell? ⟨w.heap.size, 0, none⟩ = some (.int .i64 l) := (hk2.blk hb1 (fun h => h)).cell 0; have c1 : w2.cell? ⟨w.heap.size, 1, none⟩ = some (.int .i64 e) := (hk2.blk hb1 (fun h => h)).cell 1; have c2 : w2.cell? ⟨w.heap.size, 2, none⟩ = some (.int .i64 i) := (hk2.blk hb1 (fun h => h)).cell 2; have c3 : w2.cell? ⟨w.heap.size, 3, none⟩ = some (.slice sa sn sc) := (hk2.blk hb1 (fun h => h)).cell 3; have d0 : w2.cell? ⟨w1.heap.size, 0, none⟩ = some (.int .i64 l') := hb2.cell 0; have d1 : w2.cell? ⟨w1.heap.size, 1, none⟩ = some (.int .i64 e') := hb2.cell 1; have d2 : w2.cell? ⟨w1.heap.size, 2, none⟩ = some (.int .i64 i') := hb2.cell 2; have d3 : w2.cell? ⟨w1.heap.size, 3, none⟩ = some (.slice ta tn tc) := hb2.cell 3; have hkk := hide (hk1.trans hk2 (fun _ _ h => h)); clear hb1 hb2 hk1 hk2 hz1 hz2)
          | fail)
        go_ret
        exact ⟨by simp, hkk.out⟩
    · have h2b : (e == e') = false := by simp; omega
      have H2 := hide h2
      clear h2
      obtain rfl : b = false := by
        rw [← Hb.out]
        have h1 := H1.out
        have h2 := H2.out
        simp [h1, h2]
      clear Hb
      go_enter Try.func17, Try.ntmps17
      go_wp2_with (first
        | ((with_reducible refine aw_box (dst := some 2) (t := 24) (v := rAgg l e i ⟨sa, sn, sc⟩) rfl ?_); intro w1 hb1 hk1 hz1)
        | ((with_reducible refine aw_box (dst := some 3) (t := 24) (v := rAgg l' e' i' ⟨ta, tn, tc⟩) rfl ?_); intro w2 hb2 hk2 hz2; have c0 : w2.cell? ⟨w.heap.size, 0, none⟩ = some (.int .i64 l) := (hk2.blk hb1 (fun h => h)).cell 0; have c1 : w2.cell? ⟨w.heap.size, 1, none⟩ = some (.int .i64 e) := (hk2.blk hb1 (fun h => h)).cell 1; have c2 : w2.cell? ⟨w.heap.size, 2, none⟩ = some (.int .i64 i) := (hk2.blk hb1 (fun h => h)).cell 2; have c3 : w2.cell? ⟨w.heap.size, 3, none⟩ = some (.slice sa sn sc) := (hk2.blk hb1 (fun h => h)).cell 3; have d0 : w2.cell? ⟨w1.heap.size, 0, none⟩ = some (.int .i64 l') := hb2.cell 0; have d1 : w2.cell? ⟨w1.heap.size, 1, none⟩ = some (.int .i64 e') := hb2.cell 1; have d2 : w2.cell? ⟨w1.heap.size, 2, none⟩ = some (.int .i64 i') := hb2.cell 2; have d3 : w2.cell? ⟨w1.heap.size, 3, none⟩ = some (.slice ta tn tc) := hb2.cell 3; have hkk := hide (hk1.trans hk2 (fun _ _ h => h)); clear hb1 hb2 hk1 hk2 hz1 hz2)
        | fail)
      go_ret
      exact ⟨by simp, hkk.out⟩
  · have h1b : (l == l') = false := by simp; omega
    have H1 := hide h1
    clear h1
    obtain rfl : b = false := by
      rw [← Hb.out]
      have h1 := H1.out
      simp [h1]
    clear Hb
    go_enter Try.func17, Try.ntmps17
    go_wp2_with (first
      | ((with_reducible refine aw_box (dst := some 2) (t := 24) (v := rAgg l e i ⟨sa, sn, sc⟩) rfl ?_); intro w1 hb1 hk1 hz1)
      | ((with_reducible refine aw_box (dst := some 3) (t := 24) (v := rAgg l' e' i' ⟨ta, tn, tc⟩) rfl ?_); intro w2 hb2 hk2 hz2; have c0 : w2.cell? ⟨w.heap.size, 0, none⟩ = some (.int .i64 l) := (hk2.blk hb1 (fun h => h)).cell 0; have c1 : w2.cell? ⟨w.heap.size, 1, none⟩ = some (.int .i64 e) := (hk2.blk hb1 (fun h => h)).cell 1; have c2 : w2.cell? ⟨w.heap.size, 2, none⟩ = some (.int .i64 i) := (hk2.blk hb1 (fun h => h)).cell 2; have c3 : w2.cell? ⟨w.heap.size, 3, none⟩ = some (.slice sa sn sc) := (hk2.blk hb1 (fun h => h)).cell 3; have d0 : w2.cell? ⟨w1.heap.size, 0, none⟩ = some (.int .i64 l') := hb2.cell 0; have d1 : w2.cell? ⟨w1.heap.size, 1, none⟩ = some (.int .i64 e') := hb2.cell 1; have d2 : w2.cell? ⟨w1.heap.size, 2, none⟩ = some (.int .i64 i') := hb2.cell 2; have d3 : w2.cell? ⟨w1.heap.size, 3, none⟩ = some (.slice ta tn tc) := hb2.cell 3; have hkk := hide (hk1.trans hk2 (fun _ _ h => h)); clear hb1 hb2 hk1 hk2 hz1 hz2)
      | fail)
    go_ret
    exact ⟨by simp, hkk.out⟩
theorem rsame_at (w : World) (x y : Rv) (hx : RcAt w x) (hy : RcAt w y) (b : Bool) (hb : sameR x y = b) : Calls Try.prog 17 #[x.agg, y.agg] w fun e w' => e = .returned (.bool b) ∧ Kept (fun _ => False) w w' :=
  rsameP_at w x.kd x.tl x.nm x.s y.kd y.tl y.nm y.s x.ws y.ws hx hy b hb
end Go.Proofs.Ytcdlgaknpmlfeaa
