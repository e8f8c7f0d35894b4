/-
  Frames in memory; Right.
-/
import Derived.Test.YtapoagpkjngjpaaFMath
import Derived.Test.YtapoagpkjngjpaaMarkG
import Derived.Test.YtapoagpkjngjpaaRow
import Derived.Test.YtapoagpkjngjpaaRegIn
namespace Go.Proofs.Ytapoagpkjngjpaa
open Go.RowKit Go.Shelf
set_option linter.unusedSimpArgs false
set_option linter.unusedVariables false
set_option maxRecDepth 100000

theorem Try.info3 : (Try.prog.info? 3).map (fun i => (i.zero, i.size, i.bytes)) = some (some (.int .i64 0), 1, 8) := by kernel_rfl
theorem Try.info4 : (Try.prog.info? 4).map (fun i => (i.zero, i.size, i.bytes)) = some (some (.bool false), 1, 1) := by kernel_rfl
theorem Try.info24 : (Try.prog.info? 24).map (fun i => (i.zero, i.size, i.bytes)) = some (some (.slice none 0 0), 1, 24) := by kernel_rfl
theorem Try.info28 : (Try.prog.info? 28).map (fun i => (i.zero, i.size, i.bytes)) = some (some (.int .i64 0), 1, 8) := by kernel_rfl
theorem Try.info51 : (Try.prog.info? 51).map (fun i => (i.zero, i.size, i.bytes)) = some (some (.agg #[.int .i64 0, .int .i64 0, .int .i64 0, .int .i64 0, .slice none 0 0]), 5, 56) := by kernel_rfl
theorem Try.agg51 : aggSize Try.prog 51 5 := by
  obtain ⟨i, hi, _, hs, _⟩ := info_parts Try.info51
  exact ⟨⟨i, hi, hs⟩, _, Try.underlying51, .inr ⟨_, rfl⟩⟩

/-- A frame's cells. -/
def frV (f : Fr) (vb : Value) : List Value := [.int .i64 f.lsn, .int .i64 f.ep, .int .i64 f.ix, .int .i64 f.ct, vb]
def frAgg (f : Fr) (vb : Value) : Value := .agg #[.int .i64 f.lsn, .int .i64 f.ep, .int .i64 f.ix, .int .i64 f.ct, vb]

set_option maxHeartbeats 1000000 in
theorem within_at (w : World) (n m : Int) (b : Bool) (hb : decide (0 ≤ n ∧ n ≤ m) = b) : Calls Try.prog 69 #[.int .i64 n, .int .i64 m] w fun e w' => e = .returned (.bool b) ∧ w = w' := by
  by_cases h1 : 0 ≤ n
  · by_cases h2 : n ≤ m
    · have h2' : ¬ m < n := by omega
      have hb' : b = true := by rw [← hb]; simp [h1, h2]
      subst hb'
      clear hb
      go_enter Try.func69, Try.ntmps69
      go_wp2
      go_ret
      simp
    · have h2' : m < n := by omega
      have hb' : b = false := by rw [← hb]; simp [h2']
      subst hb'
      clear hb
      go_enter Try.func69, Try.ntmps69
      go_wp2
      go_ret
      simp
  · have h1' : n < 0 := by omega
    have hb' : b = false := by rw [← hb]; simp; omega
    subst hb'
    clear hb
    go_enter Try.func69, Try.ntmps69
    go_wp2
    go_ret
    simp

def rightP (l e i c : Int) (len : Nat) : Bool := decide (0 ≤ l ∧ l ≤ 4611686018427387903 ∧ 0 ≤ e ∧ e ≤ 4294967295 ∧ len ≤ 40 ∧ 0 ≤ i ∧ i < c ∧ c ≤ 65535)
set_option maxRecDepth 100000 in
set_option maxHeartbeats 4000000 in
theorem rightP_at (w : World) (l e i c : Int) (bo : Option Addr) (len cap : Nat) (b : Bool) (hb : rightP l e i c len = b) :
    Calls Try.prog 50 #[.agg #[.int .i64 l, .int .i64 e, .int .i64 i, .int .i64 c, .slice bo len cap]] w fun e w' => e = .returned (.bool b) ∧ Kept (fun _ => False) w w' := by
  have Hb : Hid (rightP l e i c len = b) := hide hb
  clear hb
  cases hl : decide (0 ≤ l ∧ l ≤ 4611686018427387903) with
  | false =>
    obtain rfl : b = false := by rw [← Hb.out]; unfold rightP; simp at hl ⊢; omega
    go_enter Try.func50, Try.ntmps50
    go_wp2_with (first
      | ((with_reducible refine aw_box (t := 51) (v := .agg #[.int .i64 l, .int .i64 e, .int .i64 i, .int .i64 c, .slice bo len cap]) rfl ?_); intro w1 hb1 hk1 hz1; have c0 : w1.cell? ⟨w.heap.size, 0, none⟩ = some (.int .i64 l) := hb1.cell 0; clear hz1 hb1)
      | fail)
    refine (within_at _ _ _ false hl).mono ?_
    rintro e w2 ⟨rfl, rfl⟩
    clear hl
    go_wp2
    go_ret
    exact ⟨rfl, hk1⟩
  | true =>
  cases he : decide (0 ≤ e ∧ e ≤ 4294967295) with
  | false =>
    obtain rfl : b = false := by rw [← Hb.out]; unfold rightP; simp at he ⊢; omega
    go_enter Try.func50, Try.ntmps50
    go_wp2_with (first
      | ((with_reducible refine aw_box (t := 51) (v := .agg #[.int .i64 l, .int .i64 e, .int .i64 i, .int .i64 c, .slice bo len cap]) rfl ?_); intro w1 hb1 hk1 hz1; have c0 : w1.cell? ⟨w.heap.size, 0, none⟩ = some (.int .i64 l) := hb1.cell 0; have c1 : w1.cell? ⟨w.heap.size, 1, none⟩ = some (.int .i64 e) := hb1.cell 1; clear hz1 hb1)
      | fail)
    refine (within_at _ _ _ true hl).mono ?_
    rintro e w2 ⟨rfl, rfl⟩
    clear hl
    go_wp2_with fail
    refine (within_at _ _ _ false he).mono ?_
    rintro e w2 ⟨rfl, rfl⟩
    clear he
    go_wp2
    go_ret
    exact ⟨rfl, hk1⟩
  | true =>
  have Hl := hide hl
  have He := hide he
  have main : (∃ x, x = (decide (len ≤ 40) && decide (0 ≤ i) && decide (i < c) && decide (c ≤ 65535)) ∧ x = b) := ⟨_, rfl, by rw [← Hb.out]; unfold rightP; simp only [decide_eq_true_eq] at hl he; rw [Bool.eq_iff_iff]; simp only [Bool.and_eq_true, decide_eq_true_eq]; omega⟩
  have Hm := hide main
  clear main hl he
  go_enter Try.func50, Try.ntmps50
  go_wp2_with (first
    | ((with_reducible refine aw_box (t := 51) (v := .agg #[.int .i64 l, .int .i64 e, .int .i64 i, .int .i64 c, .slice bo len cap]) rfl ?_); intro w1 hb1 hk1 hz1; have c0 : w1.cell? ⟨w.heap.size, 0, none⟩ = some (.int .i64 l) := hb1.cell 0; have c1 : w1.cell? ⟨w.heap.size, 1, none⟩ = some (.int .i64 e) := hb1.cell 1; have c2 : w1.cell? ⟨w.heap.size, 2, none⟩ = some (.int .i64 i) := hb1.cell 2; have c3 : w1.cell? ⟨w.heap.size, 3, none⟩ = some (.int .i64 c) := hb1.cell 3; have c4 : w1.cell? ⟨w.heap.size, 4, none⟩ = some (.slice bo len cap) := hb1.cell 4; clear hz1 hb1)
    | fail)
  refine (within_at _ _ _ true Hl.out).mono ?_
  rintro e w2 ⟨rfl, rfl⟩
  go_wp2_with fail
  refine (within_at _ _ _ true He.out).mono ?_
  rintro e w2 ⟨rfl, rfl⟩
  by_cases h3 : len ≤ 40
  · by_cases h4 : 0 ≤ i
    · by_cases h5 : i < c
      · by_cases h6 : c ≤ 65535
        · have h6' : ¬ 65535 < c := by omega
          go_wp2
          go_ret
          obtain ⟨x, hx, hxb⟩ := Hm.out
          refine ⟨?_, hk1⟩
          rw [← hxb, hx]
          simp [h3, h4, h5, h6]
        · have h6' : 65535 < c := by omega
          go_wp2
          go_ret
          obtain ⟨x, hx, hxb⟩ := Hm.out
          refine ⟨?_, hk1⟩
          rw [← hxb, hx]
          simp [h3, h4, h5, h6]
      · go_wp2
        go_ret
        obtain ⟨x, hx, hxb⟩ := Hm.out
        refine ⟨?_, hk1⟩
        rw [← hxb, hx]
        simp [h3, h4]; omega
    · have h4' : i < 0 := by omega
      go_wp2
      go_ret
      obtain ⟨x, hx, hxb⟩ := Hm.out
      refine ⟨?_, hk1⟩
      rw [← hxb, hx]
      simp [h3]; omega
  · have h3' : 40 < len := by omega
    go_wp2
    go_ret
    obtain ⟨x, hx, hxb⟩ := Hm.out
    refine ⟨?_, hk1⟩
    rw [← hxb, hx]
    simp; omega
theorem Src.slice {w : World} {v : Value} {B : List Nat} (h : Src w v B) : ∃ bo cap, v = .slice bo B.length cap := by
  obtain ⟨bo, cap, rfl, _⟩ := h
  exact ⟨bo, cap, rfl⟩
theorem right_at (w : World) (f : Fr) (vb : Value) (hs : ∃ bo cap, vb = .slice bo f.B.length cap) : Calls Try.prog 50 #[frAgg f vb] w fun e w' => e = .returned (.bool (rightN f)) ∧ Kept (fun _ => False) w w' := by
  obtain ⟨bo, cap, rfl⟩ := hs
  exact rightP_at w f.lsn f.ep f.ix f.ct bo f.B.length cap _ rfl
end Go.Proofs.Ytapoagpkjngjpaa
