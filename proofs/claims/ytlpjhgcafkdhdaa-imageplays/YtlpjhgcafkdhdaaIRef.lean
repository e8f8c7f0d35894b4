/-
  The document's own answers: Get, Zero, With; the law's same.
-/
import Derived.Test.YtlpjhgcafkdhdaaIFirst
namespace Go.Proofs.Ytlpjhgcafkdhdaa
open Go.RowKit Go.Shelf
set_option linter.unusedSimpArgs false
set_option linter.unusedVariables false
set_option maxRecDepth 100000

section
variable {ρ : Operand → Value} {w : World} {dst : Option Tmp} {ty : TypeId} {pos : String} {aft : Array Edge} {gd : Option (Nat × Bool)} {x y z : Operand}
theorem r_lo9 {B : List Nat} (l : Nat) (hl : l ≤ B.length) (hx : ρ x = .string (strN B)) (hy : ρ y = .int .i64 l) :
    (execOp ρ ⟨dst, .slice 9 x (some y) none none, ty, pos, aft, gd⟩).run Try.prog w = .ok (.value (.string (strN (B.drop l)))) w := by
  have hsz : (strN B).size = B.length := strN_size B
  have h2 : (0 : Int) ≤ (l : Int) ∧ (l : Int) ≤ (B.length : Int) := by omega
  have e := strN_extract B l B.length
  rw [List.take_length] at e
  simp [execOp, Instr.sliceAt, run_underlying Try.underlying9, Instr.slice, hx, hy, Instr.sliceBounds, Instr.sliceBound, asIntOf, hsz, h2, hl, e]
theorem r_hi9 {B : List Nat} (h : Nat) (hl : h ≤ B.length) (hx : ρ x = .string (strN B)) (hy : ρ y = .int .i64 h) :
    (execOp ρ ⟨dst, .slice 9 x none (some y) none, ty, pos, aft, gd⟩).run Try.prog w = .ok (.value (.string (strN (B.take h)))) w := by
  have hsz : (strN B).size = B.length := strN_size B
  have h2 : (0 : Int) ≤ (h : Int) ∧ (h : Int) ≤ (B.length : Int) := by omega
  have e := strN_extract B 0 h
  rw [List.drop_zero] at e
  simp [execOp, Instr.sliceAt, run_underlying Try.underlying9, Instr.slice, hx, hy, Instr.sliceBounds, Instr.sliceBound, asIntOf, hsz, h2, hl, e]
theorem r_mid9 {B : List Nat} (l h : Nat) (hl : l ≤ h) (hh : h ≤ B.length) (hx : ρ x = .string (strN B)) (hy : ρ y = .int .i64 l) (hz : ρ z = .int .i64 h) :
    (execOp ρ ⟨dst, .slice 9 x (some y) (some z) none, ty, pos, aft, gd⟩).run Try.prog w = .ok (.value (.string (strN ((B.take h).drop l)))) w := by
  have hsz : (strN B).size = B.length := strN_size B
  have h2 : (0 : Int) ≤ (h : Int) ∧ (h : Int) ≤ (B.length : Int) := by omega
  have h3 : (0 : Int) ≤ (l : Int) ∧ (l : Int) ≤ (h : Int) := by omega
  have e := strN_extract B l h
  simp [execOp, Instr.sliceAt, run_underlying Try.underlying9, Instr.slice, hx, hy, hz, Instr.sliceBounds, Instr.sliceBound, asIntOf, hsz, h2, h3, hl, hh, e]
end
/-- The block of a text, or none. -/
def rgetB (d : List Nat) (n : Nat) (k : Int) : List Nat := if 0 ≤ k ∧ k < n then getB d k.toNat else []
theorem rget_at (w : World) (d : List Nat) (n : Nat) (hd : d.length = 64 * n) (hn : n ≤ 64) (k : Int) (r : Bool) (hr : decide (0 ≤ k ∧ k < n) = r) : Calls Try.prog 19 #[.string (strN d), .int .i64 k] w fun e w' => e = .returned (.tuple #[.string (strN (rgetB d n k)), .bool r]) ∧ w = w' := by
  have hsz : (strN d).size = d.length := strN_size d
  have HD := hide hd
  by_cases h0 : k < 0
  · have hb : rgetB d n k = [] := if_neg (by omega)
    have hr2 : r = false := by rw [← hr]; simp; omega
    rw [hb, hr2]
    clear hr hr2 hb hd
    go_enter Try.func19, Try.ntmps19
    go_wp2
    go_ret2
    exact ⟨rfl, rfl⟩
  · have h64 : (d.length : Int) / 64 = n := by omega
    have h64t : (d.length : Int).tdiv 64 = n := by rw [Int.tdiv_eq_ediv_of_nonneg (by omega)]; exact h64
    have hwn : IntKind.i64.wrap (n : Int) = n := by rw [IntKind.wrap_i64]; omega
    obtain ⟨len, hlen⟩ : ∃ len, d.length = len := ⟨_, rfl⟩
    rw [hlen] at hsz h64 h64t
    by_cases h1 : (n : Int) ≤ k
    · have hb : rgetB d n k = [] := if_neg (by omega)
      have hr2 : r = false := by rw [← hr]; simp; omega
      rw [hb, hr2]
      clear hr hr2 hb hd hlen
      go_enter Try.func19, Try.ntmps19
      go_wp2
      go_ret2
      exact ⟨rfl, rfl⟩
    · have hb : rgetB d n k = getB d k.toNat := if_pos (by omega)
      have hr2 : r = true := by rw [← hr]; simp; omega
      rw [hb, hr2]
      obtain ⟨m, rfl⟩ : ∃ m : Nat, k = m := ⟨k.toNat, by omega⟩
      have hmn : m < n := by omega
      have Hmn := hide hmn
      have hw1 : IntKind.i64.wrap (64 * (m : Int)) = ((64 * m : Nat) : Int) := by rw [IntKind.wrap_i64]; omega
      have hw2 : IntKind.i64.wrap (((64 * m : Nat) : Int) + 64) = ((64 * m + 64 : Nat) : Int) := by rw [IntKind.wrap_i64]; omega
      have Hlen := hide hlen
      clear hr hr2 hb hd hlen
      go_enter Try.func19, Try.ntmps19
      go_wp2_with (with_reducible refine stop_slice 9 ?_)
      refine hide ?_
      refine wpList_run rfl (r_mid9 (64 * m) (64 * m + 64) (by omega) (by have := HD.out; have := Hmn.out; omega) rfl rfl rfl) ?_
      try simp only [put_lit, put_none, List.set_cons_succ, List.set_cons_zero]
      have Hg : Hid ((d.take (64 * m + 64)).drop (64 * m) = getB d m) := hide (by rw [getB, List.drop_take, show 64 * m + 64 - 64 * m = 64 by omega])
      rw [Hg.out]
      clear h64 h64t hwn hw1 hw2 hsz
      go_wp2
      go_ret2
      exact ⟨by rw [Int.toNat_natCast]; rfl, rfl⟩
theorem zero_at (w : World) (n : Nat) (hn : 1 ≤ n ∧ n ≤ 64) : Calls Try.prog 14 #[.int .i64 n] w fun e w' => e = .returned (.string (strN (List.replicate (64 * n) 0))) ∧ Kept (fun _ => False) w w' := by
  obtain ⟨i5, hi5, hz5, hs5, hb5⟩ := info_parts Try.info5
  have Hi5 := hide hi5
  have Hz5 := hide hz5
  have Hs5 := hide hs5
  have Hb5 := hide hb5
  have Hn := hide hn
  have hw1 : IntKind.i64.wrap (64 * (n : Int)) = ((64 * n : Nat) : Int) := by rw [IntKind.wrap_i64]; omega
  clear hi5 hz5 hs5 hb5
  go_enter Try.func14, Try.ntmps14
  go_wp2_with (first
    | ((with_reducible refine aw_make (n := 64 * n) 1 (by decide) Try.underlying28 Hi5.out Hz5.out rfl Hs5.out rfl rfl (by rw [Hb5.out]; have := Hn.out; omega) (by have := Hn.out; unfold maxLen; omega) ?_); intro w2 hw2 hk2 hz2; have HW2 := hide hw2; have HK2 := hide hk2; clear hw2 hk2 hz2)
    | (with_reducible refine stop_convertG 28 9 ?_)
    | fail)
  refine hide ?_
  have hsrc : Src w2 (.slice (some ⟨w.heap.size, 0, none⟩) (64 * n) (64 * n)) (List.replicate (64 * n) 0) := by
    have h2 := HW2.out
    rw [Nat.mul_one, ← BV_rep] at h2
    have := h2.src (B := List.replicate (64 * n) 0) (cap := 64 * n) (by rw [List.take_of_length_le (by rw [BV_length]; exact Nat.le_refl _)]) (fun x hx => by rw [List.eq_of_mem_replicate hx]; decide) (by simp)
    simpa using this
  refine wpList_run rfl (r_strS rfl hsrc) ?_
  try simp only [put_lit, put_none, List.set_cons_succ, List.set_cons_zero]
  clear hw1
  go_wp2
  go_ret
  exact ⟨rfl, HK2.out⟩
theorem isame_at (w : World) (u v : Value) (A B : List Nat) (hA : SrcV w u (IV A)) (hB : SrcV w v (IV B)) (hl : A.length ≤ 1000 ∧ B.length ≤ 1000) (r : Bool) (hr : decide (A = B) = r) : Calls Try.prog 16 #[u, v] w fun e w' => e = .returned (.bool r) ∧ Kept (fun _ => False) w w' := by
  obtain ⟨ao, ca, hu, -, -, -⟩ := id hA
  obtain ⟨bo, cb, hv, -, -, -⟩ := id hB
  rw [IV_length] at hu hv
  subst hu hv
  have HA := hide hA
  have HB := hide hB
  have HL := hide hl
  clear hA hB
  by_cases hl2 : A.length = B.length
  · obtain ⟨n, hn⟩ : ∃ n, A.length = n := ⟨_, rfl⟩
    have HNA := hide hn
    have HNB := hide (hl2.symm.trans hn)
    rw [← hl2, hn]
    have hnn : ((n : Int) != (n : Int)) = false := by simp
    have hn1 : n ≤ 1000 := by omega
    have HR : Hid (decide (A.drop 0 = B.drop 0) = r) := hide (by simpa using hr)
    clear hr hl2 hn hl
    go_enter Try.func16, Try.ntmps16
    go_wp2
    go_loopw [13] (fun i wr => ∃ k : Nat, i = .int .i64 k ∧ k ≤ n ∧ Hid (decide (A.drop k = B.drop k) = r) ∧ Kept (fun _ => False) w wr)
      (fun i _ => n - (intOf i).toNat)
    case atStart => exact ⟨0, rfl, Nat.zero_le _, HR, Kept.refl _ _⟩
    case round =>
      obtain ⟨k, rfl, hk, HRk, hkr⟩ := hrel
      by_cases hlt : k < n
      · have hka : k < A.length := by rw [HNA.out]; exact hlt
        have hkb : k < B.length := by rw [HNB.out]; exact hlt
        obtain ⟨g, o, rfl, c0⟩ := srcv_int (HA.out.kept hkr (fun _ _ h => h)) hka
        obtain ⟨g', o', rfl, c1⟩ := srcv_int (HB.out.kept hkr (fun _ _ h => h)) hkb
        obtain ⟨p, hp⟩ : ∃ p, A[k] = p := ⟨_, rfl⟩
        obtain ⟨q, hq⟩ : ∃ q, B[k] = q := ⟨_, rfl⟩
        have hstep : Hid (r = (decide (p = q) && decide (A.drop (k + 1) = B.drop (k + 1)))) := hide (by
          rw [← HRk.out, List.drop_eq_getElem_cons hka, List.drop_eq_getElem_cons hkb, hp, hq]
          simp)
        rw [hp] at c0
        rw [hq] at c1
        have HKr := hide hkr
        clear hp hq
        by_cases hpq : p = q
        · subst hpq
          have hpp : ((p : Int) != (p : Int)) = false := by simp
          go_wp2_with fail
          refine region_tail 8 Try.mixed (by kernel_rfl) ?_
          intro w5 hk5 hz5
          simp only [List.take_succ_cons, List.take_zero, List.drop_succ_cons, List.drop_zero]
          have d0 : w5.cell? ⟨g, o + k, none⟩ = some (.int .i64 p) := hk5.cells (M := [.int .i64 p]) (so := o + k) (fun j u hj => by cases j with | zero => simp at hj; rw [← hj]; exact c0 | succ j => simp at hj) (fun h => h) 0 _ rfl
          have d1 : w5.cell? ⟨g', o' + k, none⟩ = some (.int .i64 p) := hk5.cells (M := [.int .i64 p]) (so := o' + k) (fun j u hj => by cases j with | zero => simp at hj; rw [← hj]; exact c1 | succ j => simp at hj) (fun h => h) 0 _ rfl
          have HK5 := hide (HKr.out.trans hk5 (fun _ _ h => h))
          clear c0 c1 hk5 hz5
          still_step
          still_step
          still_step
          still_step
          still_step
          still_step
          still_step
          still_step
          refine wpStill_nil ?_
          go_wp2
          go_roundw
          case rel => exact ⟨k + 1, by simp, by omega, hide (by rw [hstep.out]; simp), HK5.out⟩
          case measure => simp [intOf]; omega
        · have hpp : ((p : Int) != (q : Int)) = true := by simp; omega
          go_wp2_with fail
          refine region_tail 8 Try.mixed (by kernel_rfl) ?_
          intro w5 hk5 hz5
          simp only [List.take_succ_cons, List.take_zero, List.drop_succ_cons, List.drop_zero]
          have d0 : w5.cell? ⟨g, o + k, none⟩ = some (.int .i64 p) := hk5.cells (M := [.int .i64 p]) (so := o + k) (fun j u hj => by cases j with | zero => simp at hj; rw [← hj]; exact c0 | succ j => simp at hj) (fun h => h) 0 _ rfl
          have d1 : w5.cell? ⟨g', o' + k, none⟩ = some (.int .i64 q) := hk5.cells (M := [.int .i64 q]) (so := o' + k) (fun j u hj => by cases j with | zero => simp at hj; rw [← hj]; exact c1 | succ j => simp at hj) (fun h => h) 0 _ rfl
          have HK5 := hide (HKr.out.trans hk5 (fun _ _ h => h))
          clear c0 c1 hk5 hz5
          still_step
          still_step
          still_step
          still_step
          still_step
          still_step
          still_step
          still_step
          refine wpStill_nil ?_
          have hres : r = false := by rw [hstep.out]; simp [hpq]
          go_wp2
          go_ret
          exact ⟨by rw [hres]; rfl, HK5.out⟩
      · obtain rfl : k = n := by omega
        have hres : r = true := by
          rw [← HRk.out, List.drop_of_length_le (by rw [HNA.out]; exact Nat.le_refl _), List.drop_of_length_le (by rw [HNB.out]; exact Nat.le_refl _)]
          rfl
        go_wp2
        go_ret
        exact ⟨by rw [hres]; rfl, hkr⟩
  · have hres : r = false := by rw [← hr]; simp; intro h; exact hl2 (congrArg _ h)
    have hnn : (((A.length : Nat) : Int) != ((B.length : Nat) : Int)) = true := by simp; omega
    clear HA HB HL hr
    generalize A.length = n at *
    generalize B.length = m at *
    go_enter Try.func16, Try.ntmps16
    go_wp2
    go_ret
    exact ⟨by rw [hres]; rfl, Kept.refl _ _⟩
end Go.Proofs.Ytlpjhgcafkdhdaa
