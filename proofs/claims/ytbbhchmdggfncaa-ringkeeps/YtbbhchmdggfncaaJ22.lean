/-
  The log in memory; ring's small functions.
-/
import Derived.Test.YtbbhchmdggfncaaJ16
import Derived.Test.YtbbhchmdggfncaaJ21
namespace Go.Proofs.Ytbbhchmdggfncaa
open Go.RowKit Go.Shelf
set_option linter.unusedSimpArgs false
set_option linter.unusedVariables false
set_option maxRecDepth 100000

/-- A log: where its device lies, the first sector, how many segments of which size, the end. -/
structure Lg where
  db : Nat
  fr : Nat
  sg : Nat
  sz : Nat
  en : Nat
def LogAt (w : World) (b : Nat) (l : Lg) : Prop := Blk w b [.pointer (some ⟨l.db, 0, none⟩), .int .i64 l.fr, .int .i64 l.sg, .int .i64 l.sz, .int .i64 l.en] 66

set_option maxHeartbeats 1000000 in
theorem rgwithin_at (w : World) (n l m : Int) (b : Bool) (hb : decide (l ≤ n ∧ n ≤ m) = b) : Calls Try.prog 20 #[.int .i64 n, .int .i64 l, .int .i64 m] w fun e w' => e = .returned (.bool b) ∧ w = w' := by
  by_cases h1 : l ≤ n
  · by_cases h2 : n ≤ m
    · have h2' : ¬ m < n := by omega
      have hb' : b = true := by rw [← hb]; simp [h1, h2]
      subst hb'
      clear hb
      go_enter Try.func20, Try.ntmps20
      go_wp2
      go_ret
      simp
    · have h2' : m < n := by omega
      have hb' : b = false := by rw [← hb]; simp [h2']
      subst hb'
      clear hb
      go_enter Try.func20, Try.ntmps20
      go_wp2
      go_ret
      simp
  · have h1' : n < l := by omega
    have hb' : b = false := by rw [← hb]; simp; omega
    subst hb'
    clear hb
    go_enter Try.func20, Try.ntmps20
    go_wp2
    go_ret
    simp

theorem epoch_at (w : World) (n : Int) (b : Bool) (hb : decide (0 ≤ n ∧ n ≤ 4294967295) = b) : Calls Try.prog 24 #[.int .i64 n] w fun e w' => e = .returned (.bool b) ∧ w = w' := by
  have HW := hide (rgwithin_at w n 0 4294967295 b hb)
  clear hb
  go_enter Try.func24, Try.ntmps24
  go_wp2_with (go_at_call 20; refine HW.out.mono ?_; rintro e w' ⟨rfl, rfl⟩)
  go_ret
  exact ⟨rfl, rfl⟩

theorem made_at (w : World) (b : Nat) (l : Lg) (h : LogAt w b l) : Calls Try.prog 22 #[.pointer (some ⟨b, 0, none⟩)] w fun e w' => e = .returned (.bool true) ∧ w = w' := by
  have c : w.cell? ⟨b, 0, none⟩ = some (.pointer (some ⟨l.db, 0, none⟩)) := Blk.cell h 0
  clear h
  go_enter Try.func22, Try.ntmps22
  go_wp2
  go_ret
  exact ⟨rfl, rfl⟩

theorem head_at (w : World) (t n : Int) : Calls Try.prog 23 #[.int .i64 t, .int .i64 n] w fun e w' => e = .returned (rAgg 1 t n ⟨none, 0, 0⟩) ∧ Kept (fun _ => False) w w' := by
  obtain ⟨i37, hi37, hz37, hs37, hb37⟩ := info_parts Try.info37
  have Hi37 := hide hi37
  have Hz37 := hide hz37
  clear hi37 hz37 hs37 hb37
  go_enter Try.func23, Try.ntmps23
  go_wp2_with (first
    | ((with_reducible refine aw_alloc (dst := some 4) Hi37.out Hz37.out ?_); intro w1 hb1 hk1 hz1; have Yz1 := hide hz1; clear hz1)
    | ((with_reducible refine aw_store (x := .tmp 4) (M := [.int .i64 1, .int .i64 t, .int .i64 n, .slice none 0 0]) Try.agg37 rfl rfl rfl (by simp [Value.oneCell']) hb1 (by simp [Value.cells]) ?_); intro w2 hb2 hk2 hz2; have Yz2 := hide hz2; clear hz2; rw [put_whole _ _ (by simp [Value.cells])] at hb2)
    | fail)
  refine bodyPost_ret (results_cell (t := 4) (ty := 37) rfl Try.agg37 rfl hb2 rfl) rfl ?_
  exact ⟨rfl, hk1.trans hk2 (fun b _ h => by first | exact h | omega)⟩
theorem beginning_at (w : World) (b : Nat) (l : Lg) (h : LogAt w b l) (p : Nat) (hp : p < 4611686018427387904) (hz : 1 ≤ l.sz ∧ l.sz ≤ 64) (q : Nat) (hq : q = p - p % l.sz) : Calls Try.prog 37 #[.pointer (some ⟨b, 0, none⟩), .int .i64 p] w fun e w' => e = .returned (.int .i64 q) ∧ w = w' := by
  have c : w.cell? ⟨b, 3, none⟩ = some (.int .i64 l.sz) := Blk.cell h 3
  obtain ⟨r, hr⟩ : ∃ r, r = p % l.sz := ⟨_, rfl⟩
  have hr1 : (p : Int) % l.sz = r := by omega
  have hr2 : (p : Int).tmod l.sz = r := by rw [Int.tmod_eq_emod_of_nonneg (by omega)]; exact hr1
  have hrp : r ≤ p := by rw [hr]; exact Nat.mod_le _ _
  have hq1 : q = p - r := by rw [hr]; exact hq
  have hq2 : (p : Int) - r = q := by omega
  have hn0 : ¬ ((l.sz : Int) = 0) := by omega
  clear hr hq hq1 h
  obtain ⟨s, hs⟩ : ∃ s, s = l.sz := ⟨_, rfl⟩
  rw [← hs] at c hz hr1 hr2 hn0
  clear hs
  go_enter Try.func37, Try.ntmps37
  go_wp2
  go_ret
  exact ⟨rfl, rfl⟩
end Go.Proofs.Ytbbhchmdggfncaa


/-
  mayTurn and goesIn, of package ring.
-/
namespace Go.Proofs.Ytbbhchmdggfncaa
open Go.RowKit Go.Shelf
set_option linter.unusedSimpArgs false
set_option linter.unusedVariables false
set_option maxRecDepth 100000

section
variable {ρ : Operand → Value} {w : World} {dst : Option Tmp} {ty : TypeId} {pos : String} {aft : Array Edge} {gd : Option (Nat × Bool)} {x y z : Operand}
theorem r_f66 {b k : Nat} (hk : k < 5) (hx : ρ x = .pointer (some ⟨b, 0, none⟩)) : (execOp ρ ⟨dst, .fieldAddr 66 x k, ty, pos, aft, gd⟩).run Try.prog w = .ok (.value (.pointer (some ⟨b, k, none⟩))) w := by
  match k, hk with
  | 0, _ => go_simp
  | 1, _ => go_simp
  | 2, _ => go_simp
  | 3, _ => go_simp
  | 4, _ => go_simp
theorem r_rgquo {i j q : Nat} (hx : ρ x = .int .i64 i) (hy : ρ y = .int .i64 j) (h0 : 1 ≤ j ∧ j ≤ 64) (hi : i ≤ 4611686018427387904) (h : i / j = q) : (execOp ρ ⟨dst, .binOp .quo 3 x y 3, ty, pos, aft, gd⟩).run Try.prog w = .ok (.value (.int .i64 (q : Nat))) w := by
  have hn : ¬ (j = 0) := by omega
  have h1 : (i : Int) / j = q := by rw [← h]; exact (Int.natCast_ediv i j).symm
  have h2 : (i : Int).tdiv j = q := by rw [Int.tdiv_eq_ediv_of_nonneg (by omega)]; exact h1
  have hq : q ≤ i := by rw [← h]; exact Nat.div_le_self _ _
  have hw : IntKind.i64.wrap (q : Int) = (q : Int) := by rw [IntKind.wrap_i64]; omega
  clear h h1
  go_simp
theorem r_rgrem {i j q : Nat} (hx : ρ x = .int .i64 i) (hy : ρ y = .int .i64 j) (h0 : 1 ≤ j ∧ j ≤ 64) (hi : i ≤ 4611686018427387904) (h : i % j = q) : (execOp ρ ⟨dst, .binOp .rem 3 x y 3, ty, pos, aft, gd⟩).run Try.prog w = .ok (.value (.int .i64 (q : Nat))) w := by
  have hn : ¬ (j = 0) := by omega
  have h1 : (i : Int) % j = q := by rw [← h]; exact (Int.natCast_emod i j).symm
  have h2 : (i : Int).tmod j = q := by rw [Int.tmod_eq_emod_of_nonneg (by omega)]; exact h1
  have hq : q ≤ i := by rw [← h]; exact Nat.mod_le _ _
  have hw : IntKind.i64.wrap (q : Int) = (q : Int) := by rw [IntKind.wrap_i64]; omega
  clear h h1
  go_simp
theorem r_rgadd {i j : Nat} (hx : ρ x = .int .i64 i) (hy : ρ y = .int .i64 j) (h : i + j ≤ 9223372036854775807) : (execOp ρ ⟨dst, .binOp .add 3 x y 3, ty, pos, aft, gd⟩).run Try.prog w = .ok (.value (.int .i64 ((i + j : Nat) : Int))) w := by
  have hw : IntKind.i64.wrap ((i : Int) + (j : Int)) = ((i + j : Nat) : Int) := by rw [IntKind.wrap_i64]; omega
  go_simp
theorem r_rglss {i j : Int} {r : Bool} (hx : ρ x = .int .i64 i) (hy : ρ y = .int .i64 j) (h : decide (i < j) = r) : (execOp ρ ⟨dst, .binOp .lss 3 x y 3, ty, pos, aft, gd⟩).run Try.prog w = .ok (.value (.bool r)) w := by
  subst h
  go_simp
theorem r_rgrec {b : Nat} {k t n : Int} {a : Option Addr} {c d : Nat} (hx : ρ x = .pointer (some ⟨b, 0, none⟩)) (hb : Blk w b [.int .i64 k, .int .i64 t, .int .i64 n, .slice a c d] 37) : (execOp ρ ⟨dst, .load 37 x, ty, pos, aft, gd⟩).run Try.prog w = .ok (.value (.agg #[.int .i64 k, .int .i64 t, .int .i64 n, .slice a c d])) w := by
  have hv := run_loadVar (P := Try.prog) Try.agg37 hb rfl
  simp [execOp, Instr.loadAt, Instr.sureAddr, hx, hv]
end
theorem LogAt.kept {w w' : World} {b : Nat} {l : Lg} (h : LogAt w b l) (hk : Kept (fun _ => False) w w') : LogAt w' b l := hk.blk h (fun h => h)
theorem LogAt.cell {w : World} {b : Nat} {l : Lg} (h : LogAt w b l) (k : Nat) : w.cell? ⟨b, k, none⟩ = [Value.pointer (some ⟨l.db, 0, none⟩), .int .i64 l.fr, .int .i64 l.sg, .int .i64 l.sz, .int .i64 l.en][k]? := Blk.cell h k

set_option maxHeartbeats 4000000 in
theorem mayTurn_at (w : World) (b : Nat) (l : Lg) (h : LogAt w b l) (low : Int) (hz : 1 ≤ l.sz ∧ l.sz ≤ 64) (hg : l.sg ≤ 64) (he : l.en ≤ 4611686018427387904) (r : Bool) (hr : decide (((l.en / l.sz : Nat) : Int) + 1 - l.sg < low) = r) :
    Calls Try.prog 41 #[.pointer (some ⟨b, 0, none⟩), .int .i64 low] w fun e w' => e = .returned (.bool r) ∧ Kept (fun _ => False) w w' := by
  obtain ⟨q, hq⟩ : ∃ q, l.en / l.sz = q := ⟨_, rfl⟩
  have hq2 : q ≤ 4611686018427387904 := by rw [← hq]; exact Nat.le_trans (Nat.div_le_self _ _) he
  rw [hq] at hr
  have HL := hide h
  have HZ0 := hide hz
  have HEn := hide he
  have Hq := hide hq
  have Hq2 := hide hq2
  have Hr := hide hr
  have Hg := hide hg
  clear h hz he hq hq2 hr hg
  go_enter Try.func41, Try.ntmps41
  go_wp2_with fail
  refine hold_frame (p := fun fr => Code.wp Try.prog _ _ fr _) ?_
  intro fr hfr
  have e0 : fr.eval (.tmp 0) = .pointer (some ⟨b, 0, none⟩) := by rw [hfr.out]; rfl
  have hts : fr.tmps.size = 24 := by rw [hfr.out]; rfl
  refine region_S0 99 Try.mixed ?_
  intro w0 hkw hheap
  have HLw := HL.out.kept hkw
  have hS0 : Kept (fun _ => False) w0 w0 := Kept.refl (fun _ => False) w0
  refine ⟨Kept (fun _ => False) w0, ?_⟩
  refine tkS 0 6 (v := .pointer (some ⟨b, 0, none⟩)) hS0 rfl rfl (by kernel_rfl) (by kernel_rfl) (by kernel_rfl) (by kernel_rfl) (wanted_none rfl) (fun _ _ _ h => h) (fun U hU => r_move (by simp [eval_put_ne, eval_put_eq, size_put, hts, e0])) ?_
  refine tkS 1 7 (v := .pointer (some ⟨b, 0, none⟩)) hS0 rfl rfl (by kernel_rfl) (by kernel_rfl) (by kernel_rfl) (by kernel_rfl) (wanted_none rfl) (fun _ _ _ h => h) (fun U hU => r_nilChk (by simp [eval_put_ne, eval_put_eq, size_put, hts])) ?_
  refine tkS 2 8 (v := .pointer (some ⟨b, 4, none⟩)) hS0 rfl rfl (by kernel_rfl) (by kernel_rfl) (by kernel_rfl) (by kernel_rfl) (wanted_none rfl) (fun _ _ _ h => h) (fun U hU => r_f66 (b := b) (k := 4) (by decide) (by simp [eval_put_ne, eval_put_eq, size_put, hts])) ?_
  refine tkS 3 9 (v := .int .i64 l.en) hS0 rfl rfl (by kernel_rfl) (by kernel_rfl) (by kernel_rfl) (by kernel_rfl) (wanted_none rfl) (fun _ _ _ h => h) (fun U hU => r_ld3 (b := b) (o := 4) (by simp [eval_put_ne, eval_put_eq, size_put, hts]) ((HLw.kept ((hS0).trans hU (fun _ _ h => h))).cell 4)) ?_
  refine tkS 4 10 (v := .pointer (some ⟨b, 0, none⟩)) hS0 rfl rfl (by kernel_rfl) (by kernel_rfl) (by kernel_rfl) (by kernel_rfl) (wanted_none rfl) (fun _ _ _ h => h) (fun U hU => r_move (by simp [eval_put_ne, eval_put_eq, size_put, hts, e0])) ?_
  refine tkS 5 11 (v := .pointer (some ⟨b, 0, none⟩)) hS0 rfl rfl (by kernel_rfl) (by kernel_rfl) (by kernel_rfl) (by kernel_rfl) (wanted_none rfl) (fun _ _ _ h => h) (fun U hU => r_nilChk (by simp [eval_put_ne, eval_put_eq, size_put, hts])) ?_
  refine tkS 6 12 (v := .pointer (some ⟨b, 3, none⟩)) hS0 rfl rfl (by kernel_rfl) (by kernel_rfl) (by kernel_rfl) (by kernel_rfl) (wanted_none rfl) (fun _ _ _ h => h) (fun U hU => r_f66 (b := b) (k := 3) (by decide) (by simp [eval_put_ne, eval_put_eq, size_put, hts])) ?_
  refine tkS 7 13 (v := .int .i64 l.sz) hS0 rfl rfl (by kernel_rfl) (by kernel_rfl) (by kernel_rfl) (by kernel_rfl) (wanted_none rfl) (fun _ _ _ h => h) (fun U hU => r_ld3 (b := b) (o := 3) (by simp [eval_put_ne, eval_put_eq, size_put, hts]) ((HLw.kept ((hS0).trans hU (fun _ _ h => h))).cell 3)) ?_
  refine tkS 8 14 (v := .int .i64 q) hS0 rfl rfl (by kernel_rfl) (by kernel_rfl) (by kernel_rfl) (by kernel_rfl) (wanted_none rfl) (fun _ _ _ h => h) (fun U hU => r_rgquo (i := l.en) (j := l.sz) (q := q) (by simp [eval_put_ne, eval_put_eq, size_put, hts]) (by simp [eval_put_ne, eval_put_eq, size_put, hts]) HZ0.out HEn.out Hq.out) ?_
  refine tkS 9 15 (v := .int .i64 ((q + 1 : Nat) : Int)) hS0 rfl rfl (by kernel_rfl) (by kernel_rfl) (by kernel_rfl) (by kernel_rfl) (wanted_none rfl) (fun _ _ _ h => h) (fun U hU => r_rgadd (i := q) (j := 1) (by simp [eval_put_ne, eval_put_eq, size_put, hts]) rfl (by have := Hq2.out; omega)) ?_
  refine tkS 10 5 (v := .int .i64 ((q + 1 : Nat) : Int)) hS0 rfl rfl (by kernel_rfl) (by kernel_rfl) (by kernel_rfl) (by kernel_rfl) (wanted_none rfl) (fun _ _ _ h => h) (fun U hU => r_assign (by simp [eval_put_ne, eval_put_eq, size_put, hts])) ?_
  refine doneS (by kernel_rfl) ?_
  rw [hfr.out]
  clear hfr e0 hts
  simp only [put_lit, put_none, List.set_cons_succ, List.set_cons_zero]
  have HL1 := hide HLw
  have HK1 := hide hkw
  clear hS0 hkw hheap HLw HL

  have c2 := HL1.out.cell 2
  simp only [List.getElem?_cons_succ, List.getElem?_cons_zero] at c2
  obtain ⟨g, hg⟩ : ∃ g, g = l.sg := ⟨_, rfl⟩
  have hg64 := Hg.out
  have hr := Hr.out
  have hq2 := Hq2.out
  rw [← hg] at c2 hg64 hr
  obtain ⟨t, ht⟩ : ∃ t : Int, t = (q : Int) + 1 - g := ⟨_, rfl⟩
  have ht2 : ((q + 1 : Nat) : Int) - (g : Int) = t := by omega
  have ht3 : (q : Int) + 1 - (g : Int) = t := by omega
  have hw : IntKind.i64.wrap t = t := by rw [IntKind.wrap_i64]; omega
  rw [ht3] at hr
  clear ht hg
  cases r with
  | true =>
    have hr' : t < low := of_decide_eq_true hr
    clear hr
    go_wp2
    go_ret
    exact ⟨rfl, HK1.out⟩
  | false =>
    have hr' : ¬ t < low := of_decide_eq_false hr
    clear hr
    go_wp2
    go_ret
    exact ⟨rfl, HK1.out⟩

set_option maxHeartbeats 4000000 in
theorem goesIn_at (w : World) (b : Nat) (l : Lg) (h : LogAt w b l) (x : Rv) (hx : RcAt w x) (hz : 1 ≤ l.sz ∧ l.sz ≤ 64) (he : l.en ≤ 4611686018427387904) (B : List Nat) (hB : putRN x.rc = B) (hl : B.length ≤ 10000) (n : Nat) (hn : (if B.length = 0 then 0 else sectN B.length) = n) (hn2 : n ≤ 10000) (r : Bool) (hr : decide (l.en % l.sz + n < l.sz) = r) :
    Calls Try.prog 32 #[.pointer (some ⟨b, 0, none⟩), x.agg] w fun e w' => e = .returned (.bool r) ∧ Kept (fun _ => False) w w' := by
  obtain ⟨m, hm⟩ : ∃ m, l.en % l.sz = m := ⟨_, rfl⟩
  have hm2 : m ≤ 64 := by rw [← hm]; exact Nat.le_trans (Nat.le_of_lt (Nat.mod_lt _ (by omega))) hz.2
  rw [hm] at hr
  have hr2 : decide (((m + n : Nat) : Int) < l.sz) = r := by rw [← hr]; exact decide_eq_decide.2 (by omega)
  have HL0 := hide h
  have HX0 := hide hx
  have HZ0 := hide hz
  have HEn := hide he
  have Hm := hide hm
  have Hm2 := hide hm2
  have Hn := hide hn
  have Hn2 := hide hn2
  have Hr := hide hr2
  have HB := hide hB
  have HBl := hide hl
  clear h hx hz he hm hm2 hr hr2 hn hn2 hB hl
  obtain ⟨xk, xt, xm, ⟨xa, xn, xc⟩, xw⟩ := x
  go_enter Try.func32, Try.ntmps32
  go_wp2_with (first
    | ((with_reducible refine aw_box (t := 37) (v := rAgg xk xt xm ⟨xa, xn, xc⟩) rfl ?_); intro w1 hb1 hk1 hz1; clear hz1)
    | fail)
  obtain ⟨c, hc⟩ : ∃ c, c = w.heap.size := ⟨_, rfl⟩
  rw [← hc] at hb1 ⊢
  have HC : Hid (Blk w1 c [.int .i64 xk, .int .i64 xt, .int .i64 xm, .slice xa xn xc] 37) := hide hb1
  have HL := hide (HL0.out.kept hk1)
  have HX := hide (HX0.out.kept hk1)
  have HK0 := hide hk1
  clear hb1 hk1 hc HL0 HX0
  refine hold_frame (p := fun fr => Code.wp Try.prog _ _ fr _) ?_
  intro fr hfr
  have e0 : fr.eval (.tmp 0) = .pointer (some ⟨b, 0, none⟩) := by rw [hfr.out]; rfl
  have e3 : fr.eval (.tmp 3) = .pointer (some ⟨c, 0, none⟩) := by rw [hfr.out]; rfl
  have hts : fr.tmps.size = 22 := by rw [hfr.out]; rfl
  refine region_S0 99 Try.mixed ?_
  intro w0 hkw hheap
  have HLw := HL.out.kept hkw
  have HCw := hkw.blk HC.out (fun h => h)
  have HXw := HX.out.kept hkw
  have hS0 : Kept (fun _ => False) w0 w0 := Kept.refl (fun _ => False) w0
  refine ⟨Kept (fun _ => False) w0, ?_⟩
  refine tkS 0 5 (v := .pointer (some ⟨b, 0, none⟩)) hS0 rfl rfl (by kernel_rfl) (by kernel_rfl) (by kernel_rfl) (by kernel_rfl) (wanted_none rfl) (fun _ _ _ h => h) (fun U hU => r_move (by simp [eval_put_ne, eval_put_eq, size_put, hts, e0])) ?_
  refine tkS 1 6 (v := .pointer (some ⟨b, 0, none⟩)) hS0 rfl rfl (by kernel_rfl) (by kernel_rfl) (by kernel_rfl) (by kernel_rfl) (wanted_none rfl) (fun _ _ _ h => h) (fun U hU => r_nilChk (by simp [eval_put_ne, eval_put_eq, size_put, hts])) ?_
  refine tkS 2 7 (v := .pointer (some ⟨b, 4, none⟩)) hS0 rfl rfl (by kernel_rfl) (by kernel_rfl) (by kernel_rfl) (by kernel_rfl) (wanted_none rfl) (fun _ _ _ h => h) (fun U hU => r_f66 (b := b) (k := 4) (by decide) (by simp [eval_put_ne, eval_put_eq, size_put, hts])) ?_
  refine tkS 3 8 (v := .int .i64 l.en) hS0 rfl rfl (by kernel_rfl) (by kernel_rfl) (by kernel_rfl) (by kernel_rfl) (wanted_none rfl) (fun _ _ _ h => h) (fun U hU => r_ld3 (b := b) (o := 4) (by simp [eval_put_ne, eval_put_eq, size_put, hts]) ((HLw.kept ((hS0).trans hU (fun _ _ h => h))).cell 4)) ?_
  refine tkS 4 9 (v := .pointer (some ⟨b, 0, none⟩)) hS0 rfl rfl (by kernel_rfl) (by kernel_rfl) (by kernel_rfl) (by kernel_rfl) (wanted_none rfl) (fun _ _ _ h => h) (fun U hU => r_move (by simp [eval_put_ne, eval_put_eq, size_put, hts, e0])) ?_
  refine tkS 5 10 (v := .pointer (some ⟨b, 0, none⟩)) hS0 rfl rfl (by kernel_rfl) (by kernel_rfl) (by kernel_rfl) (by kernel_rfl) (wanted_none rfl) (fun _ _ _ h => h) (fun U hU => r_nilChk (by simp [eval_put_ne, eval_put_eq, size_put, hts])) ?_
  refine tkS 6 11 (v := .pointer (some ⟨b, 3, none⟩)) hS0 rfl rfl (by kernel_rfl) (by kernel_rfl) (by kernel_rfl) (by kernel_rfl) (wanted_none rfl) (fun _ _ _ h => h) (fun U hU => r_f66 (b := b) (k := 3) (by decide) (by simp [eval_put_ne, eval_put_eq, size_put, hts])) ?_
  refine tkS 7 12 (v := .int .i64 l.sz) hS0 rfl rfl (by kernel_rfl) (by kernel_rfl) (by kernel_rfl) (by kernel_rfl) (wanted_none rfl) (fun _ _ _ h => h) (fun U hU => r_ld3 (b := b) (o := 3) (by simp [eval_put_ne, eval_put_eq, size_put, hts]) ((HLw.kept ((hS0).trans hU (fun _ _ h => h))).cell 3)) ?_
  refine tkS 8 13 (v := .int .i64 m) hS0 rfl rfl (by kernel_rfl) (by kernel_rfl) (by kernel_rfl) (by kernel_rfl) (wanted_none rfl) (fun _ _ _ h => h) (fun U hU => r_rgrem (i := l.en) (j := l.sz) (q := m) (by simp [eval_put_ne, eval_put_eq, size_put, hts]) (by simp [eval_put_ne, eval_put_eq, size_put, hts]) HZ0.out HEn.out Hm.out) ?_
  refine tkS 9 14 (v := rAgg xk xt xm ⟨xa, xn, xc⟩) hS0 rfl rfl (by kernel_rfl) (by kernel_rfl) (by kernel_rfl) (by kernel_rfl) (wanted_none rfl) (fun _ _ _ h => h) (fun U hU => r_rgrec (b := c) (by simp [eval_put_ne, eval_put_eq, size_put, hts, e3]) (((hS0).trans hU (fun _ _ h => h)).blk HCw (fun h => h))) ?_
  refine tkS 12 17 (v := .pointer (some ⟨b, 0, none⟩)) hS0 rfl rfl (by kernel_rfl) (by kernel_rfl) (by kernel_rfl) (by kernel_rfl) (wanted_none rfl) (fun _ _ _ h => h) (fun U hU => r_move (by simp [eval_put_ne, eval_put_eq, size_put, hts, e0])) ?_
  refine tkS 13 18 (v := .pointer (some ⟨b, 0, none⟩)) hS0 rfl rfl (by kernel_rfl) (by kernel_rfl) (by kernel_rfl) (by kernel_rfl) (wanted_none rfl) (fun _ _ _ h => h) (fun U hU => r_nilChk (by simp [eval_put_ne, eval_put_eq, size_put, hts])) ?_
  refine tkS 14 19 (v := .pointer (some ⟨b, 3, none⟩)) hS0 rfl rfl (by kernel_rfl) (by kernel_rfl) (by kernel_rfl) (by kernel_rfl) (wanted_none rfl) (fun _ _ _ h => h) (fun U hU => r_f66 (b := b) (k := 3) (by decide) (by simp [eval_put_ne, eval_put_eq, size_put, hts])) ?_
  refine tkS 15 20 (v := .int .i64 l.sz) hS0 rfl rfl (by kernel_rfl) (by kernel_rfl) (by kernel_rfl) (by kernel_rfl) (wanted_none rfl) (fun _ _ _ h => h) (fun U hU => r_ld3 (b := b) (o := 3) (by simp [eval_put_ne, eval_put_eq, size_put, hts]) ((HLw.kept ((hS0).trans hU (fun _ _ h => h))).cell 3)) ?_
  refine oneCS 10 15 (by kernel_rfl) rfl rfl (wanted_none rfl) (r_call1 Try.func47 (by kernel_rfl) rfl rfl (by simp [eval_put_ne, eval_put_eq, size_put, hts])) (rsect_at w0 ⟨xk, xt, xm, ⟨xa, xn, xc⟩, xw⟩ HXw B HB.out HBl.out n Hn.out) ?_
  rintro e v1 ⟨rfl, k1⟩
  refine ⟨_, rfl, k1, ?_⟩
  refine raiseM (S' := Kept (fun _ => False) v1) (fun U hU => k1.trans hU (fun _ _ h => h)) ?_
  have hs1 : (Kept (fun _ => False) v1) _ := Kept.refl _ _
  refine tkS 11 16 (v := .int .i64 ((m + n : Nat) : Int)) hs1 rfl rfl (by kernel_rfl) (by kernel_rfl) (by kernel_rfl) (by kernel_rfl) (wanted_none rfl) (fun _ _ _ h => h) (fun U hU => r_rgadd (i := m) (j := n) (by simp [eval_put_ne, eval_put_eq, size_put, hts]) (by simp [eval_put_ne, eval_put_eq, size_put, hts]) (by have := Hm2.out; have := Hn2.out; omega)) ?_
  refine tkS 16 21 (v := .bool r) hs1 rfl rfl (by kernel_rfl) (by kernel_rfl) (by kernel_rfl) (by kernel_rfl) (wanted_none rfl) (fun _ _ _ h => h) (fun U hU => r_rglss (i := ((m + n : Nat) : Int)) (j := l.sz) (by simp [eval_put_ne, eval_put_eq, size_put, hts]) (by simp [eval_put_ne, eval_put_eq, size_put, hts]) Hr.out) ?_
  refine tkS 17 4 (v := .bool r) hs1 rfl rfl (by kernel_rfl) (by kernel_rfl) (by kernel_rfl) (by kernel_rfl) (wanted_none rfl) (fun _ _ _ h => h) (fun U hU => r_assign (by simp [eval_put_ne, eval_put_eq, size_put, hts])) ?_
  refine doneS (by kernel_rfl) ?_
  rw [hfr.out]
  clear hfr e0 e3 hts
  simp only [put_lit, put_none, List.set_cons_succ, List.set_cons_zero]
  have HK1 := hide (hkw.trans k1 (fun _ _ h => h))

  go_wp2
  go_ret
  exact ⟨rfl, HK0.out.trans HK1.out (fun _ _ h => h)⟩

end Go.Proofs.Ytbbhchmdggfncaa


/-
  What a write of sectors does to a device, however it stands.
-/
namespace Go.Proofs.Ytbbhchmdggfncaa
open Go.RowKit Go.Shelf
set_option linter.unusedSimpArgs false
set_option linter.unusedVariables false
set_option maxRecDepth 100000

/-- The error of a write that keeps the device's bounds. -/
def wErr (s : D.DS) : Int := if s.off then 10 else if s.left = 0 then 10 else 0
/-- The device behind it. -/
def wDev (s : D.DS) (a m : Nat) (A : List Nat) : D.DS := if s.off then s else if s.left = 0 then s.spent else s.written a (BV A) m
theorem BV_isByte {A : List Nat} (h : ∀ x ∈ A, x < 256) : ∀ x ∈ BV A, D.isByte x := by
  intro x hx
  simp only [BV, List.mem_map] at hx
  obtain ⟨n, hn, rfl⟩ := hx
  exact ⟨n, rfl, by omega, by have := h n hn; omega⟩
theorem DevStep.pre {w w1 w2 : World} {b n : Nat} {s : D.DS} {F : Nat → Prop} (hk : Kept (fun _ => False) w w1) (h : D.DevStep w1 w2 b n s F) : D.DevStep w w2 b n s F := by
  obtain ⟨h1, F', h2, h3⟩ := h
  exact ⟨(hk.mono (fun _ _ h => h.elim)).trans h1 (fun _ _ h => h), F', h2, fun k hk' => (h3 k hk').imp id (fun h => Nat.le_trans hk.size h)⟩
theorem DevStep.post {w w1 w2 : World} {b n : Nat} {s : D.DS} {F : Nat → Prop} (h : D.DevStep w w1 b n s F) (hk : Kept (fun _ => False) w1 w2) : D.DevStep w w2 b n s F := by
  obtain ⟨h1, F', h2, h3⟩ := h
  exact ⟨h1.trans hk (fun _ _ h => h.elim), F', h2.kept hk (fun _ _ h => h), h3⟩
set_option maxHeartbeats 1000000 in
theorem rgwrite_at (w : World) (b n : Nat) (s : D.DS) (F : Nat → Prop) (h : D.DevAt w b n s F) (base : Nat) (hF : ∀ k, F k → k < base) (a m cap : Nat) (bo : Option Addr) (A : List Nat) (hA : A.length = 64 * m) (ho : Own w base (.slice bo (64 * m) cap) A)
    (hm : m ≤ 100000) (ham : a + m ≤ n) (hc : s.calls < 4611686018427387904) (hlen : s.ws.length + m < 1000000000) :
    Calls Try.prog 44 #[.pointer (some ⟨b, 0, none⟩), .int .i64 a, .slice bo (64 * m) cap] w fun e w' => e = .returned (.int .i64 (wErr s)) ∧ D.DevStep w w' b n (wDev s a m A) F := by
  have hn2 : n ≤ 4096 := by obtain ⟨bs, wv, hd, _⟩ := h; exact hd.n2
  unfold wErr wDev
  cases hs : s.off with
  | true => simpa using D.write_off w b n s F h a (.slice bo (64 * m) cap) hs
  | false =>
    by_cases hz : s.left = 0
    · have := D.write_limit w b n s F h a (by omega) bo m cap (by omega) hs (D.hasB_nat n a m ham) hz hc
      simpa [hz] using this
    · have := D.write_ok w b n s F h a m cap bo (BV A) (by rw [BV_length]; exact hA) (BV_isByte ho.2) (by
        obtain ⟨_, _, e, h1, _⟩ := ho.src
        simp only [Value.slice.injEq] at e
        obtain ⟨-, -, rfl⟩ := e
        omega) (fun h0 => by
        rcases ho.1.2 with ⟨e, h1⟩ | ⟨g, cap', cur, e, hb, hg, h1, h2, h3, h4⟩
        · omega
        · simp only [Value.slice.injEq] at e
          obtain ⟨rfl, -, rfl⟩ := e
          refine ⟨g, 0, rfl, ?_, fun hf => ?_⟩
          · obtain ⟨bo', cap'', e, h5, h6, h7, _⟩ := ho.src
            simp only [Value.slice.injEq] at e
            obtain ⟨rfl, -, rfl⟩ := e
            obtain ⟨sb, so, e, h8⟩ := h7 (by omega)
            cases e
            exact h8
          · have := hF g hf; omega) ham hs hz hc hlen
      simpa [hz] using this
end Go.Proofs.Ytbbhchmdggfncaa


/-
  put, of package ring: a record's sectors go to the device.
-/
namespace Go.Proofs.Ytbbhchmdggfncaa
open Go.RowKit Go.Shelf
open Go.Proofs.Ytbbhchmdggfncaa.D (r_load24)
set_option linter.unusedSimpArgs false
set_option linter.unusedVariables false
set_option maxRecDepth 100000

section
variable {ρ : Operand → Value} {w : World} {dst : Option Tmp} {ty : TypeId} {pos : String} {aft : Array Edge} {gd : Option (Nat × Bool)} {x y z : Operand}
theorem r_rgmul {i j q : Nat} (hx : ρ x = .int .i64 i) (hy : ρ y = .int .i64 j) (hq : q ≤ 1000000000) (h : i * j = q) : (execOp ρ ⟨dst, .binOp .mul 3 x y 3, ty, pos, aft, gd⟩).run Try.prog w = .ok (.value (.int .i64 (q : Nat))) w := by
  have h1 : (i : Int) * j = q := by rw [← h]; exact (Int.natCast_mul i j).symm
  have hw : IntKind.i64.wrap (q : Int) = (q : Int) := by rw [IntKind.wrap_i64]; omega
  clear h
  go_simp
end
theorem ring_fit {fr sg sz n q r m a : Nat} (hq : q < sg) (hr : r + m ≤ sz) (h : fr + sg * sz ≤ n) (ha : fr + q * sz + r = a) : a + m ≤ n := by
  have h1 : (q + 1) * sz ≤ sg * sz := Nat.mul_le_mul_right _ hq
  rw [Nat.add_mul] at h1
  omega
set_option maxHeartbeats 8000000 in
theorem rgput_at (w : World) (b n : Nat) (l : Lg) (s : D.DS) (F : Nat → Prop) (h : LogAt w b l) (hd : D.DevAt w l.db n s F) (hFb : ¬ F b) (hz : 1 ≤ l.sz ∧ l.sz ≤ 64) (hg : 1 ≤ l.sg ∧ l.sg ≤ 64) (hr : l.fr + l.sg * l.sz ≤ n)
    (p : Nat) (hp : p ≤ 4611686018427387000) (ep : Int) (hep : 0 ≤ ep ∧ ep ≤ 4294967295) (x : Rv) (hx : ∀ w', Kept F w w' → RcAt w' x) (B : List Nat) (hB : putRN x.rc = B) (hl : B.length ≤ 10000) (h0 : 0 < B.length) (m : Nat) (hm : sectN B.length = m)
    (hfit : p % l.sz + m ≤ l.sz) (a : Nat) (ha : l.fr + p / l.sz % l.sg * l.sz + p % l.sz = a) (A : List Nat) (hA : (sectorsOf p (fun _ => ep) B).flatten = A) (hc : s.calls < 4611686018427387904) (hlen : s.ws.length + m < 1000000000) (ec : Int) (hec : wErr s = ec) :
    Calls Try.prog 26 #[.pointer (some ⟨b, 0, none⟩), .int .i64 p, .int .i64 ep, x.agg] w fun e w' => e = .returned (.tuple #[.int .i64 (if ec = 0 then ((p + m : Nat) : Int) else 0), .int .i64 ec]) ∧ D.DevStep w w' l.db n (wDev s a m A) F := by
  have hn2 : n ≤ 4096 := by obtain ⟨bs, wv, hd, _⟩ := hd; exact hd.n2
  have hAl : A.length = 64 * m := by
    rw [← hA, ← hm]
    unfold sectorsOf
    exact flat_k p (fun _ => ep) B _
  obtain ⟨q1, hq1⟩ : ∃ q, p / l.sz = q := ⟨_, rfl⟩
  obtain ⟨q4, hq4⟩ : ∃ q, p % l.sz = q := ⟨_, rfl⟩
  rw [hq1, hq4] at ha
  rw [hq4] at hfit
  obtain ⟨q2, hq2⟩ : ∃ q, q1 % l.sg = q := ⟨_, rfl⟩
  rw [hq2] at ha
  have hq2b : q2 < l.sg := by rw [← hq2]; exact Nat.mod_lt _ (by omega)
  have ham : a + m ≤ n := ring_fit hq2b hfit hr ha
  obtain ⟨q3, hq3⟩ : ∃ q, q2 * l.sz = q := ⟨_, rfl⟩
  rw [hq3] at ha
  have hq1b : q1 ≤ 4611686018427387904 := by rw [← hq1]; exact Nat.le_trans (Nat.div_le_self _ _) (by omega)
  have hlsn : LsnOk (p : Int) B.length := by unfold LsnOk; rw [hm]; omega
  have HL0 := hide h
  have HD0 := hide hd
  have HX0 := hide hx
  have HFb := hide hFb
  have HFlt := hide hd.lt
  have HZ0 := hide hz
  have HG0 := hide hg
  have HP : Hid (p ≤ 4611686018427387904) := hide (by omega)
  have HP2 := hide hp
  have HEp := hide hep
  have HB := hide hB
  have HBl := hide hl
  have HAl := hide hAl
  have HA := hide hA
  have HLsn := hide hlsn
  have Hm : Hid (m ≤ 64) := hide (by omega)
  have Hn : Hid ((if B.length = 0 then 0 else sectN B.length) = m) := hide (by rw [if_neg (by omega)]; exact hm)
  have Ham := hide ham
  have HCa := hide hc
  have HWl := hide hlen
  have Ha := hide ha
  have Hq1 := hide hq1
  have Hq1b := hide hq1b
  have Hq2 := hide hq2
  have Hq3 := hide hq3
  have Hq3b : Hid (q3 ≤ 1000000000) := hide (by omega)
  have Hfr : Hid (l.fr ≤ 4096) := hide (by omega)
  have Hq4 := hide hq4
  have Hq4b : Hid (q4 ≤ 64) := hide (by omega)
  have HEc := hide hec
  clear h hd hx hFb hz hg hr hp hep hB hl h0 hm hfit ha hA hc hlen hn2 hAl hq1 hq4 hq2 hq2b ham hq3 hq1b hlsn hec
  obtain ⟨xk, xt, xm, ⟨xa, xn, xc⟩, xw⟩ := x
  go_enter Try.func26, Try.ntmps26
  go_wp2_with (first
    | ((with_reducible refine aw_box (t := 37) (v := rAgg xk xt xm ⟨xa, xn, xc⟩) rfl ?_); intro w1 hb1 hk1 hz1; clear hz1)
    | fail)
  obtain ⟨c, hc⟩ : ∃ c, c = w.heap.size := ⟨_, rfl⟩
  rw [← hc] at hb1 ⊢
  have HFc : Hid (¬ F c) := hide (fun h => by have := HFlt.out c h; omega)
  have HC : Hid (Blk w1 c [.int .i64 xk, .int .i64 xt, .int .i64 xm, .slice xa xn xc] 37) := hide hb1
  have HL := hide (HL0.out.kept hk1)
  have HK0 := hide hk1
  clear hb1 hc
  refine hold_frame (p := fun fr => Code.wp Try.prog _ _ fr _) ?_
  intro fr hfr
  have e0 : fr.eval (.tmp 0) = .pointer (some ⟨b, 0, none⟩) := by rw [hfr.out]; rfl
  have e1 : fr.eval (.tmp 1) = .int .i64 p := by rw [hfr.out]; rfl
  have hts : fr.tmps.size = 58 := by rw [hfr.out]; rfl
  refine region_S0 99 Try.mixed ?_
  intro w0 hkw hheap
  have HLw := HL.out.kept hkw
  have hS0 : Kept (fun _ => False) w0 w0 := Kept.refl (fun _ => False) w0
  refine ⟨Kept (fun _ => False) w0, ?_⟩
  refine tkS 0 12 (v := .pointer (some ⟨b, 0, none⟩)) hS0 rfl rfl (by kernel_rfl) (by kernel_rfl) (by kernel_rfl) (by kernel_rfl) (wanted_none rfl) (fun _ _ _ h => h) (fun U hU => r_move (by simp [eval_put_ne, eval_put_eq, size_put, hts, e0])) ?_
  refine tkS 1 13 (v := .pointer (some ⟨b, 0, none⟩)) hS0 rfl rfl (by kernel_rfl) (by kernel_rfl) (by kernel_rfl) (by kernel_rfl) (wanted_none rfl) (fun _ _ _ h => h) (fun U hU => r_nilChk (by simp [eval_put_ne, eval_put_eq, size_put, hts])) ?_
  refine tkS 2 14 (v := .pointer (some ⟨b, 1, none⟩)) hS0 rfl rfl (by kernel_rfl) (by kernel_rfl) (by kernel_rfl) (by kernel_rfl) (wanted_none rfl) (fun _ _ _ h => h) (fun U hU => r_f66 (b := b) (k := 1) (by decide) (by simp [eval_put_ne, eval_put_eq, size_put, hts])) ?_
  refine tkS 3 15 (v := .int .i64 l.fr) hS0 rfl rfl (by kernel_rfl) (by kernel_rfl) (by kernel_rfl) (by kernel_rfl) (wanted_none rfl) (fun _ _ _ h => h) (fun U hU => r_ld3 (b := b) (o := 1) (by simp [eval_put_ne, eval_put_eq, size_put, hts]) ((HLw.kept ((hS0).trans hU (fun _ _ h => h))).cell 1)) ?_
  refine tkS 4 16 (v := .int .i64 p) hS0 rfl rfl (by kernel_rfl) (by kernel_rfl) (by kernel_rfl) (by kernel_rfl) (wanted_none rfl) (fun _ _ _ h => h) (fun U hU => r_move (by simp [eval_put_ne, eval_put_eq, size_put, hts, e1])) ?_
  refine tkS 5 17 (v := .pointer (some ⟨b, 0, none⟩)) hS0 rfl rfl (by kernel_rfl) (by kernel_rfl) (by kernel_rfl) (by kernel_rfl) (wanted_none rfl) (fun _ _ _ h => h) (fun U hU => r_move (by simp [eval_put_ne, eval_put_eq, size_put, hts, e0])) ?_
  refine tkS 6 18 (v := .pointer (some ⟨b, 0, none⟩)) hS0 rfl rfl (by kernel_rfl) (by kernel_rfl) (by kernel_rfl) (by kernel_rfl) (wanted_none rfl) (fun _ _ _ h => h) (fun U hU => r_nilChk (by simp [eval_put_ne, eval_put_eq, size_put, hts])) ?_
  refine tkS 7 19 (v := .pointer (some ⟨b, 3, none⟩)) hS0 rfl rfl (by kernel_rfl) (by kernel_rfl) (by kernel_rfl) (by kernel_rfl) (wanted_none rfl) (fun _ _ _ h => h) (fun U hU => r_f66 (b := b) (k := 3) (by decide) (by simp [eval_put_ne, eval_put_eq, size_put, hts])) ?_
  refine tkS 8 20 (v := .int .i64 l.sz) hS0 rfl rfl (by kernel_rfl) (by kernel_rfl) (by kernel_rfl) (by kernel_rfl) (wanted_none rfl) (fun _ _ _ h => h) (fun U hU => r_ld3 (b := b) (o := 3) (by simp [eval_put_ne, eval_put_eq, size_put, hts]) ((HLw.kept ((hS0).trans hU (fun _ _ h => h))).cell 3)) ?_
  refine tkS 9 21 (v := .int .i64 q1) hS0 rfl rfl (by kernel_rfl) (by kernel_rfl) (by kernel_rfl) (by kernel_rfl) (wanted_none rfl) (fun _ _ _ h => h) (fun U hU => r_rgquo (i := p) (j := l.sz) (q := q1) (by simp [eval_put_ne, eval_put_eq, size_put, hts]) (by simp [eval_put_ne, eval_put_eq, size_put, hts]) HZ0.out HP.out Hq1.out) ?_
  refine tkS 10 22 (v := .pointer (some ⟨b, 0, none⟩)) hS0 rfl rfl (by kernel_rfl) (by kernel_rfl) (by kernel_rfl) (by kernel_rfl) (wanted_none rfl) (fun _ _ _ h => h) (fun U hU => r_move (by simp [eval_put_ne, eval_put_eq, size_put, hts, e0])) ?_
  refine tkS 11 23 (v := .pointer (some ⟨b, 0, none⟩)) hS0 rfl rfl (by kernel_rfl) (by kernel_rfl) (by kernel_rfl) (by kernel_rfl) (wanted_none rfl) (fun _ _ _ h => h) (fun U hU => r_nilChk (by simp [eval_put_ne, eval_put_eq, size_put, hts])) ?_
  refine tkS 12 24 (v := .pointer (some ⟨b, 2, none⟩)) hS0 rfl rfl (by kernel_rfl) (by kernel_rfl) (by kernel_rfl) (by kernel_rfl) (wanted_none rfl) (fun _ _ _ h => h) (fun U hU => r_f66 (b := b) (k := 2) (by decide) (by simp [eval_put_ne, eval_put_eq, size_put, hts])) ?_
  refine tkS 13 25 (v := .int .i64 l.sg) hS0 rfl rfl (by kernel_rfl) (by kernel_rfl) (by kernel_rfl) (by kernel_rfl) (wanted_none rfl) (fun _ _ _ h => h) (fun U hU => r_ld3 (b := b) (o := 2) (by simp [eval_put_ne, eval_put_eq, size_put, hts]) ((HLw.kept ((hS0).trans hU (fun _ _ h => h))).cell 2)) ?_
  refine tkS 14 26 (v := .int .i64 q2) hS0 rfl rfl (by kernel_rfl) (by kernel_rfl) (by kernel_rfl) (by kernel_rfl) (wanted_none rfl) (fun _ _ _ h => h) (fun U hU => r_rgrem (i := q1) (j := l.sg) (q := q2) (by simp [eval_put_ne, eval_put_eq, size_put, hts]) (by simp [eval_put_ne, eval_put_eq, size_put, hts]) HG0.out Hq1b.out Hq2.out) ?_
  refine tkS 15 27 (v := .pointer (some ⟨b, 0, none⟩)) hS0 rfl rfl (by kernel_rfl) (by kernel_rfl) (by kernel_rfl) (by kernel_rfl) (wanted_none rfl) (fun _ _ _ h => h) (fun U hU => r_move (by simp [eval_put_ne, eval_put_eq, size_put, hts, e0])) ?_
  refine tkS 16 28 (v := .pointer (some ⟨b, 0, none⟩)) hS0 rfl rfl (by kernel_rfl) (by kernel_rfl) (by kernel_rfl) (by kernel_rfl) (wanted_none rfl) (fun _ _ _ h => h) (fun U hU => r_nilChk (by simp [eval_put_ne, eval_put_eq, size_put, hts])) ?_
  refine tkS 17 29 (v := .pointer (some ⟨b, 3, none⟩)) hS0 rfl rfl (by kernel_rfl) (by kernel_rfl) (by kernel_rfl) (by kernel_rfl) (wanted_none rfl) (fun _ _ _ h => h) (fun U hU => r_f66 (b := b) (k := 3) (by decide) (by simp [eval_put_ne, eval_put_eq, size_put, hts])) ?_
  refine tkS 18 30 (v := .int .i64 l.sz) hS0 rfl rfl (by kernel_rfl) (by kernel_rfl) (by kernel_rfl) (by kernel_rfl) (wanted_none rfl) (fun _ _ _ h => h) (fun U hU => r_ld3 (b := b) (o := 3) (by simp [eval_put_ne, eval_put_eq, size_put, hts]) ((HLw.kept ((hS0).trans hU (fun _ _ h => h))).cell 3)) ?_
  refine tkS 19 31 (v := .int .i64 q3) hS0 rfl rfl (by kernel_rfl) (by kernel_rfl) (by kernel_rfl) (by kernel_rfl) (wanted_none rfl) (fun _ _ _ h => h) (fun U hU => r_rgmul (i := q2) (j := l.sz) (q := q3) (by simp [eval_put_ne, eval_put_eq, size_put, hts]) (by simp [eval_put_ne, eval_put_eq, size_put, hts]) Hq3b.out Hq3.out) ?_
  refine tkS 20 32 (v := .int .i64 ((l.fr + q3 : Nat) : Int)) hS0 rfl rfl (by kernel_rfl) (by kernel_rfl) (by kernel_rfl) (by kernel_rfl) (wanted_none rfl) (fun _ _ _ h => h) (fun U hU => r_rgadd (i := l.fr) (j := q3) (by simp [eval_put_ne, eval_put_eq, size_put, hts]) (by simp [eval_put_ne, eval_put_eq, size_put, hts]) (by have := Hfr.out; have := Hq3b.out; omega)) ?_
  refine tkS 21 33 (v := .int .i64 p) hS0 rfl rfl (by kernel_rfl) (by kernel_rfl) (by kernel_rfl) (by kernel_rfl) (wanted_none rfl) (fun _ _ _ h => h) (fun U hU => r_move (by simp [eval_put_ne, eval_put_eq, size_put, hts, e1])) ?_
  refine tkS 22 34 (v := .pointer (some ⟨b, 0, none⟩)) hS0 rfl rfl (by kernel_rfl) (by kernel_rfl) (by kernel_rfl) (by kernel_rfl) (wanted_none rfl) (fun _ _ _ h => h) (fun U hU => r_move (by simp [eval_put_ne, eval_put_eq, size_put, hts, e0])) ?_
  refine tkS 23 35 (v := .pointer (some ⟨b, 0, none⟩)) hS0 rfl rfl (by kernel_rfl) (by kernel_rfl) (by kernel_rfl) (by kernel_rfl) (wanted_none rfl) (fun _ _ _ h => h) (fun U hU => r_nilChk (by simp [eval_put_ne, eval_put_eq, size_put, hts])) ?_
  refine tkS 24 36 (v := .pointer (some ⟨b, 3, none⟩)) hS0 rfl rfl (by kernel_rfl) (by kernel_rfl) (by kernel_rfl) (by kernel_rfl) (wanted_none rfl) (fun _ _ _ h => h) (fun U hU => r_f66 (b := b) (k := 3) (by decide) (by simp [eval_put_ne, eval_put_eq, size_put, hts])) ?_
  refine tkS 25 37 (v := .int .i64 l.sz) hS0 rfl rfl (by kernel_rfl) (by kernel_rfl) (by kernel_rfl) (by kernel_rfl) (wanted_none rfl) (fun _ _ _ h => h) (fun U hU => r_ld3 (b := b) (o := 3) (by simp [eval_put_ne, eval_put_eq, size_put, hts]) ((HLw.kept ((hS0).trans hU (fun _ _ h => h))).cell 3)) ?_
  refine tkS 26 38 (v := .int .i64 q4) hS0 rfl rfl (by kernel_rfl) (by kernel_rfl) (by kernel_rfl) (by kernel_rfl) (wanted_none rfl) (fun _ _ _ h => h) (fun U hU => r_rgrem (i := p) (j := l.sz) (q := q4) (by simp [eval_put_ne, eval_put_eq, size_put, hts]) (by simp [eval_put_ne, eval_put_eq, size_put, hts]) HZ0.out HP.out Hq4.out) ?_
  refine tkS 27 39 (v := .int .i64 ((l.fr + q3 + q4 : Nat) : Int)) hS0 rfl rfl (by kernel_rfl) (by kernel_rfl) (by kernel_rfl) (by kernel_rfl) (wanted_none rfl) (fun _ _ _ h => h) (fun U hU => r_rgadd (i := l.fr + q3) (j := q4) (by simp [eval_put_ne, eval_put_eq, size_put, hts]) (by simp [eval_put_ne, eval_put_eq, size_put, hts]) (by have := Hfr.out; have := Hq3b.out; have := Hq4b.out; omega)) ?_
  refine tkS 28 10 (v := .int .i64 ((l.fr + q3 + q4 : Nat) : Int)) hS0 rfl rfl (by kernel_rfl) (by kernel_rfl) (by kernel_rfl) (by kernel_rfl) (wanted_none rfl) (fun _ _ _ h => h) (fun U hU => r_assign (by simp [eval_put_ne, eval_put_eq, size_put, hts])) ?_
  refine doneS (by kernel_rfl) ?_
  rw [hfr.out]
  clear hfr e0 e1 hts
  simp only [put_lit, put_none, List.set_cons_succ, List.set_cons_zero]
  rw [Ha.out]
  have HK1 := hide (HK0.out.trans hkw (fun _ _ h => h))
  have HK1c := hide hkw
  clear hS0 hkw hheap HLw

  go_wp2_with fail
  refine hold_frame (p := fun fr => Code.wp Try.prog _ _ fr _) ?_
  intro fr hfr
  have e0 : fr.eval (.tmp 0) = .pointer (some ⟨b, 0, none⟩) := by rw [hfr.out]; rfl
  have e1 : fr.eval (.tmp 1) = .int .i64 p := by rw [hfr.out]; rfl
  have e2 : fr.eval (.tmp 2) = .int .i64 ep := by rw [hfr.out]; rfl
  have e7 : fr.eval (.tmp 7) = .pointer (some ⟨c, 0, none⟩) := by rw [hfr.out]; rfl
  have e10 : fr.eval (.tmp 10) = .int .i64 a := by rw [hfr.out]; rfl
  have hts : fr.tmps.size = 58 := by rw [hfr.out]; rfl
  refine region_S0 99 Try.mixed ?_
  intro w0 hkw hheap
  have HK2 := hide (HK1.out.trans hkw (fun _ _ h => h))
  have HLw := HL0.out.kept HK2.out
  have HCw := (HK1c.out.trans hkw (fun _ _ h => h)).blk HC.out (fun h => h)
  have HXw := HX0.out w0 (HK2.out.mono (fun _ _ h => h.elim))
  have HDw := HD0.out.kept HK2.out (fun _ _ h => h)
  have hS0 : Kept F w0 w0 := Kept.refl F w0
  refine ⟨Kept F w0, ?_⟩
  refine tkS 0 40 (v := .pointer (some ⟨b, 0, none⟩)) hS0 rfl rfl (by kernel_rfl) (by kernel_rfl) (by kernel_rfl) (by kernel_rfl) (wanted_none rfl) (fun _ _ _ h => h) (fun U hU => r_move (by simp [eval_put_ne, eval_put_eq, size_put, hts, e0])) ?_
  refine tkS 1 41 (v := .pointer (some ⟨b, 0, none⟩)) hS0 rfl rfl (by kernel_rfl) (by kernel_rfl) (by kernel_rfl) (by kernel_rfl) (wanted_none rfl) (fun _ _ _ h => h) (fun U hU => r_nilChk (by simp [eval_put_ne, eval_put_eq, size_put, hts])) ?_
  refine tkS 2 42 (v := .pointer (some ⟨b, 0, none⟩)) hS0 rfl rfl (by kernel_rfl) (by kernel_rfl) (by kernel_rfl) (by kernel_rfl) (wanted_none rfl) (fun _ _ _ h => h) (fun U hU => r_f66 (b := b) (k := 0) (by decide) (by simp [eval_put_ne, eval_put_eq, size_put, hts])) ?_
  refine tkS 3 43 (v := .pointer (some ⟨l.db, 0, none⟩)) hS0 rfl rfl (by kernel_rfl) (by kernel_rfl) (by kernel_rfl) (by kernel_rfl) (wanted_none rfl) (fun _ _ _ h => h) (fun U hU => r_load24 (by simp [eval_put_ne, eval_put_eq, size_put, hts]) ((hU.blk HLw HFb.out).cell 0)) ?_
  refine tkS 4 44 (v := .int .i64 a) hS0 rfl rfl (by kernel_rfl) (by kernel_rfl) (by kernel_rfl) (by kernel_rfl) (wanted_none rfl) (fun _ _ _ h => h) (fun U hU => r_move (by simp [eval_put_ne, eval_put_eq, size_put, hts, e10])) ?_
  refine tkS 5 45 (v := .int .i64 p) hS0 rfl rfl (by kernel_rfl) (by kernel_rfl) (by kernel_rfl) (by kernel_rfl) (wanted_none rfl) (fun _ _ _ h => h) (fun U hU => r_move (by simp [eval_put_ne, eval_put_eq, size_put, hts, e1])) ?_
  refine tkS 6 46 (v := .int .i64 ep) hS0 rfl rfl (by kernel_rfl) (by kernel_rfl) (by kernel_rfl) (by kernel_rfl) (wanted_none rfl) (fun _ _ _ h => h) (fun U hU => r_move (by simp [eval_put_ne, eval_put_eq, size_put, hts, e2])) ?_
  refine tkS 7 47 (v := rAgg xk xt xm ⟨xa, xn, xc⟩) hS0 rfl rfl (by kernel_rfl) (by kernel_rfl) (by kernel_rfl) (by kernel_rfl) (wanted_none rfl) (fun _ _ _ h => h) (fun U hU => r_rgrec (b := c) (by simp [eval_put_ne, eval_put_eq, size_put, hts, e7]) (hU.blk HCw HFc.out)) ?_
  refine oneCS 8 48 (by kernel_rfl) rfl rfl (wanted_none rfl) (r_call1 Try.func46 (by kernel_rfl) rfl rfl (by simp [eval_put_ne, eval_put_eq, size_put, hts])) (rcput_at w0 ⟨xk, xt, xm, ⟨xa, xn, xc⟩, xw⟩ HXw) ?_
  rintro e v1 ⟨⟨ta, tn, tc⟩, rfl, hs1, k1⟩
  refine ⟨_, rfl, (k1.mono (fun _ _ h => h.elim)), ?_⟩
  have hS1 : Kept F w0 v1 := k1.mono (fun _ _ h => h.elim)
  rw [HB.out] at hs1
  refine oneCS 9 49 (by kernel_rfl) rfl rfl (wanted_none rfl) (r_call3 Try.func45 (by kernel_rfl) rfl rfl (by simp [eval_put_ne, eval_put_eq, size_put, hts]) (by simp [eval_put_ne, eval_put_eq, size_put, hts]) (by simp [eval_put_ne, eval_put_eq, size_put, hts])) (spread_at v1 p ep _ B hs1 HLsn.out HEp.out) ?_
  rintro e v2 ⟨vb, rfl, ho2, k2⟩
  rw [HA.out] at ho2
  obtain ⟨bo, cap, rfl⟩ := ho2.slice
  rw [HAl.out] at ho2 ⊢
  refine ⟨_, rfl, ((k1.trans k2 (fun _ _ h => h)).mono (fun _ _ h => h.elim)), ?_⟩
  have kk := k1.trans k2 (fun _ _ h => h)
  have hS2 : Kept F w0 v2 := kk.mono (fun _ _ h => h.elim)
  refine oneCS 10 50 (by kernel_rfl) rfl rfl (wanted_none rfl) (r_call3 Try.func44 (by kernel_rfl) rfl rfl (by simp [eval_put_ne, eval_put_eq, size_put, hts]) (by simp [eval_put_ne, eval_put_eq, size_put, hts]) (by simp [eval_put_ne, eval_put_eq, size_put, hts])) (rgwrite_at v2 l.db n s F (HDw.kept kk (fun _ _ h => h)) v1.heap.size (fun k hk => Nat.lt_of_lt_of_le (HDw.lt k hk) k1.size) a m cap bo A HAl.out ho2 (by have := Hm.out; omega) Ham.out HCa.out HWl.out) ?_
  rintro e v3 ⟨rfl, hst⟩
  refine ⟨_, rfl, (hS2.trans hst.1 (fun _ _ h => h)), ?_⟩
  have hS3 : Kept F w0 v3 := hS2.trans hst.1 (fun _ _ h => h)
  refine tkS 11 11 (v := .int .i64 (wErr s)) hS3 rfl rfl (by kernel_rfl) (by kernel_rfl) (by kernel_rfl) (by kernel_rfl) (wanted_none rfl) (fun _ _ _ h => h) (fun U hU => r_assign (by simp [eval_put_ne, eval_put_eq, size_put, hts])) ?_
  refine doneS (by kernel_rfl) ?_
  rw [hfr.out]
  clear hfr e0 e1 e2 e7 e10 hts
  simp only [put_lit, put_none, List.set_cons_succ, List.set_cons_zero]
  have HSt := hide (DevStep.pre (HK2.out.trans kk (fun _ _ h => h)) hst)
  have HX3 := hide (HX0.out v3 ((HK2.out.mono (fun _ _ h => h.elim)).trans hS3 (fun _ _ h => h)))
  have HC3 := hide (hS3.blk HCw HFc.out)
  clear hS0 hS1 hS2 hS3 hs1 ho2 k1 k2 kk hst hkw hheap HLw HCw HXw HDw HK2

  rw [HEc.out]
  by_cases he : ec = 0
  · subst he
    go_wp2_with (first
      | (with_reducible refine aw_load (t := 37) (M := [.int .i64 xk, .int .i64 xt, .int .i64 xm, .slice xa xn xc]) Try.agg37 rfl HC3.out (by simp [Value.cells]) (by simp [Value.cells]) ?_)
      | fail)
    refine (rsect_at _ ⟨xk, xt, xm, ⟨xa, xn, xc⟩, xw⟩ HX3.out B HB.out HBl.out m Hn.out).mono ?_
    rintro e w4 ⟨rfl, hk4⟩
    have hw : IntKind.i64.wrap ((p : Int) + m) = (p : Int) + m := by rw [IntKind.wrap_i64]; have := HP2.out; have := Hm.out; omega
    go_wp2
    go_ret2
    exact ⟨by simp, DevStep.post HSt.out hk4⟩
  · go_wp2
    go_ret2
    exact ⟨by simp [he], HSt.out⟩
end Go.Proofs.Ytbbhchmdggfncaa
