/-
  The reference's Fits, Number, Text and Padded.
-/
import Derived.Test.YtcdlgaknpmlfeaaPFirst
namespace Go.Proofs.Ytcdlgaknpmlfeaa
open Go.RowKit Go.Shelf
set_option linter.unusedSimpArgs false
set_option linter.unusedVariables false

theorem fits_eq {n m : Nat} (h1 : 1 ≤ m) (h8 : m ≤ 8) : fitsN n m = decide (n / 256 ^ m = 0) := by rw [fits_yes h1 h8, pow_8]
section
variable {ρ : Operand → Value} {w : World} {dst : Option Tmp} {ty : TypeId} {pos : String} {aft : Array Edge} {gd : Option (Nat × Bool)} {x y z : Operand}
theorem r_quo256 {n : Nat} (hn : n ≤ 9223372036854775807) (hx : ρ x = .int .i64 n) (hy : ρ y = .int .i64 256) : (execOp ρ ⟨dst, .binOp .quo 3 x y 3, ty, pos, aft, gd⟩).run Try.prog w = .ok (.value (.int .i64 ((n / 256 : Nat) : Int))) w := by
  obtain ⟨d, hd⟩ : ∃ d, n / 256 = d := ⟨_, rfl⟩
  rw [hd]
  have k1 : (n : Int) / 256 = (d : Int) := by omega
  have k2 : IntKind.i64.wrap (d : Int) = (d : Int) := by rw [IntKind.wrap_i64]; omega
  go_simp
theorem r_remG {k q : Int} (hq : q ≠ 0) (hx : ρ x = .int .i64 k) (hy : ρ y = .int .i64 q) : (execOp ρ ⟨dst, .binOp .rem 3 x y 3, ty, pos, aft, gd⟩).run Try.prog w = .ok (.value (.int .i64 (k.tmod q))) w := by
  go_simp
theorem r_rem256 {n : Nat} (hn : n ≤ 9223372036854775807) (hx : ρ x = .int .i64 n) (hy : ρ y = .int .i64 256) : (execOp ρ ⟨dst, .binOp .rem 3 x y 3, ty, pos, aft, gd⟩).run Try.prog w = .ok (.value (.int .i64 ((n % 256 : Nat) : Int))) w := by
  have k3 : ((n : Int)).tmod 256 = ((n % 256 : Nat) : Int) := by rw [Int.tmod_eq_emod_of_nonneg (by omega)]; omega
  have h := r_remG (ρ := ρ) (w := w) (dst := dst) (ty := ty) (pos := pos) (aft := aft) (gd := gd) (k := n) (q := 256) (by decide) hx hy
  rw [k3] at h
  exact h
theorem r_sub1 {m : Nat} (hm : m ≤ 100) (hx : ρ x = .int .i64 ((m + 1 : Nat) : Int)) (hy : ρ y = .int .i64 1) : (execOp ρ ⟨dst, .binOp .sub 3 x y 3, ty, pos, aft, gd⟩).run Try.prog w = .ok (.value (.int .i64 (m : Int))) w := by
  have k2 : IntKind.i64.wrap (((m + 1 : Nat) : Int) - 1) = (m : Int) := by rw [IntKind.wrap_i64]; omega
  have k3 : IntKind.i64.wrap (m : Int) = (m : Int) := by rw [IntKind.wrap_i64]; omega
  go_simp
end

set_option maxHeartbeats 2000000 in
theorem rnum_at (m : Nat) : m ≤ 8 → ∀ (w : World) (n : Nat), n ≤ 9223372036854775807 → Calls Try.prog 22 #[.int .i64 n, .int .i64 m] w fun e w' => e = .returned (.string (strN (numB n m))) ∧ Kept (fun _ => False) w w' := by
  induction m with
  | zero =>
    intro _ w n hn
    go_enter Try.func22, Try.ntmps22
    go_wp2
    go_ret
    exact ⟨rfl, Kept.refl _ _⟩
  | succ m ih0 =>
    intro hm w n hn
    have ih := ih0 (by omega)
    clear ih0
    have hm0 : ¬ ((m + 1 : Nat) : Int) = 0 := by omega
    have HN : Hid (numB n (m + 1) = numB (n / 256) m ++ [n % 256]) := hide rfl
    rw [HN.out]
    go_enter Try.func22, Try.ntmps22
    go_wp2
    refine hold_frame (p := fun fr => Code.wp Try.prog _ _ fr _) ?_
    intro fr hfr
    have e0 : fr.eval (.tmp 0) = .int .i64 n := by rw [hfr.out]; rfl
    have e1 : fr.eval (.tmp 1) = .int .i64 ((m + 1 : Nat) : Int) := by rw [hfr.out]; rfl
    have hts : fr.tmps.size = 18 := by rw [hfr.out]; rfl
    refine region_S0 99 Try.mixed ?_
    intro w0 hkw hheap
    have hS0 : Kept (fun _ => False) w0 w0 := Kept.refl (fun _ => False) w0
    refine ⟨Kept (fun _ => False) w0, ?_⟩
    refine tkS 0 7 (v := .int .i64 n) hS0 rfl rfl (by kernel_rfl) (by kernel_rfl) (by kernel_rfl) (by kernel_rfl) (wanted_none rfl) (fun _ _ _ h => h) (fun U hU => r_move (by simp [eval_put_ne, eval_put_eq, size_put, hts, e0])) ?_
    refine tkS 1 8 (v := .int .i64 ((n / 256 : Nat) : Int)) hS0 rfl rfl (by kernel_rfl) (by kernel_rfl) (by kernel_rfl) (by kernel_rfl) (wanted_none rfl) (fun _ _ _ h => h) (fun U hU => r_quo256 hn (by simp [eval_put_ne, eval_put_eq, size_put, hts]) rfl) ?_
    refine tkS 2 9 (v := .int .i64 ((m + 1 : Nat) : Int)) hS0 rfl rfl (by kernel_rfl) (by kernel_rfl) (by kernel_rfl) (by kernel_rfl) (wanted_none rfl) (fun _ _ _ h => h) (fun U hU => r_move (by simp [eval_put_ne, eval_put_eq, size_put, hts, e1])) ?_
    refine tkS 3 10 (v := .int .i64 (m : Int)) hS0 rfl rfl (by kernel_rfl) (by kernel_rfl) (by kernel_rfl) (by kernel_rfl) (wanted_none rfl) (fun _ _ _ h => h) (fun U hU => r_sub1 (by omega) (by simp [eval_put_ne, eval_put_eq, size_put, hts]) rfl) ?_
    refine tkS 5 12 (v := .int .i64 n) hS0 rfl rfl (by kernel_rfl) (by kernel_rfl) (by kernel_rfl) (by kernel_rfl) (wanted_none rfl) (fun _ _ _ h => h) (fun U hU => r_move (by simp [eval_put_ne, eval_put_eq, size_put, hts, e0])) ?_
    refine tkS 6 13 (v := .int .i64 ((n % 256 : Nat) : Int)) hS0 rfl rfl (by kernel_rfl) (by kernel_rfl) (by kernel_rfl) (by kernel_rfl) (wanted_none rfl) (fun _ _ _ h => h) (fun U hU => r_rem256 hn (by simp [eval_put_ne, eval_put_eq, size_put, hts]) rfl) ?_
    refine tkS 7 14 (v := .int .u8 ((n % 256 : Nat) : Int)) hS0 rfl rfl (by kernel_rfl) (by kernel_rfl) (by kernel_rfl) (by kernel_rfl) (wanted_none rfl) (fun _ _ _ h => h) (fun U hU => (r_conv35 (p := n % 256) (by simp [eval_put_ne, eval_put_eq, size_put, hts])).trans (by rw [Nat.mod_mod])) ?_
    refine twoS 4 8 (by kernel_rfl) ?_ ?_
    · refine stepCS 4 11 rfl rfl (wanted_none rfl) (r_call2 Try.func22 (by kernel_rfl) rfl rfl (by simp [eval_put_ne, eval_put_eq, size_put, hts]) (by simp [eval_put_ne, eval_put_eq, size_put, hts])) (ih w0 (n / 256) (by omega)) ?_
      rintro e w1 ⟨rfl, hk1⟩
      refine ⟨_, rfl, hk1, ?_⟩
      have hkA := Kept.alloc (fun _ => False) w1 (.cells (BV [n % 256]).toArray 5)
      have hsA : Src (w1.alloc (.cells (BV [n % 256]).toArray 5)) (.slice (some ⟨w1.heap.size, 0, none⟩) 1 1) [n % 256] := (Blk.new w1 (BV [n % 256]) 5).src (B := [n % 256]) (cap := 1) (by simp [BV]) (by simp; omega) (Nat.le_refl _)
      have hkB := hk1.trans hkA (fun _ _ h => h)
      refine oneVS 8 15 (by kernel_rfl) rfl rfl (wanted_none rfl) (r_bs25 (w := w1) [n % 256] rfl (by simp) (by simp [eval_put_ne, eval_put_eq, size_put, hts, BV])) hkB ?_
      generalize w1.alloc (.cells (BV [n % 256]).toArray 5) = wA at *
      generalize w1.heap.size = gA at *
      refine raiseM (S' := fun U => U = wA) (fun U hU => by rw [hU]; exact hkB) ?_
      have hS9 : (fun U => U = wA) _ := rfl
      refine tkS 9 16 (v := .string (strN [n % 256])) hS9 rfl rfl (by kernel_rfl) (by kernel_rfl) (by kernel_rfl) (by kernel_rfl) (wanted_none rfl) (fun _ _ _ h => h) (fun U hU => r_strS (v := .slice (some ⟨gA, 0, none⟩) 1 1) (by simp [eval_put_ne, eval_put_eq, size_put, hts]) (by rw [hU]; exact hsA)) ?_
      refine tkS 10 17 (v := .string (strN (numB (n / 256) m ++ [n % 256]))) hS9 rfl rfl (by kernel_rfl) (by kernel_rfl) (by kernel_rfl) (by kernel_rfl) (wanted_none rfl) (fun _ _ _ h => h) (fun U hU => r_add9 (A := numB (n / 256) m) (B := [n % 256]) (by simp [numB_length]; omega) (by simp [eval_put_ne, eval_put_eq, size_put, hts]) (by simp [eval_put_ne, eval_put_eq, size_put, hts])) ?_
      refine tkS 11 4 (v := .string (strN (numB (n / 256) m ++ [n % 256]))) hS9 rfl rfl (by kernel_rfl) (by kernel_rfl) (by kernel_rfl) (by kernel_rfl) (wanted_none rfl) (fun _ _ _ h => h) (fun U hU => r_assign (by simp [eval_put_ne, eval_put_eq, size_put, hts])) ?_
      refine doneS (by kernel_rfl) ?_
      have hkF : Kept (fun _ => False) w wA := hkw.trans hkB (fun _ _ h => h)
      rw [hfr.out]
      clear hfr e0 e1 hts
      simp only [put_lit, put_none, List.set_cons_succ, List.set_cons_zero]
      go_wp2
      go_ret
      exact ⟨rfl, hkF⟩
    · have hkA := Kept.alloc (fun _ => False) w0 (.cells (BV [n % 256]).toArray 5)
      have hsA : Src (w0.alloc (.cells (BV [n % 256]).toArray 5)) (.slice (some ⟨w0.heap.size, 0, none⟩) 1 1) [n % 256] := (Blk.new w0 (BV [n % 256]) 5).src (B := [n % 256]) (cap := 1) (by simp [BV]) (by simp; omega) (Nat.le_refl _)
      refine stepVS 8 15 rfl rfl (wanted_none rfl) (r_bs25 (w := w0) [n % 256] rfl (by simp) (by simp [eval_put_ne, eval_put_eq, size_put, hts, BV])) (fun _ => hkA) ?_
      generalize w0.alloc (.cells (BV [n % 256]).toArray 5) = wC at *
      generalize w0.heap.size = gA at *
      refine raiseM (S' := Kept (fun _ => False) wC) (fun U hU => hkA.trans hU (fun _ _ h => h)) ?_
      have hS8 : (Kept (fun _ => False) wC) _ := Kept.refl _ _
      refine tkS 9 16 (v := .string (strN [n % 256])) hS8 rfl rfl (by kernel_rfl) (by kernel_rfl) (by kernel_rfl) (by kernel_rfl) (wanted_none rfl) (fun _ _ _ h => h) (fun U hU => r_strS (v := .slice (some ⟨gA, 0, none⟩) 1 1) (by simp [eval_put_ne, eval_put_eq, size_put, hts]) (hsA.kept hU)) ?_
      refine oneCS 4 11 (by kernel_rfl) rfl rfl (wanted_none rfl) (r_call2 Try.func22 (by kernel_rfl) rfl rfl (by simp [eval_put_ne, eval_put_eq, size_put, hts]) (by simp [eval_put_ne, eval_put_eq, size_put, hts])) (ih wC (n / 256) (by omega)) ?_
      rintro e wA ⟨rfl, hk1⟩
      refine ⟨_, rfl, hk1, ?_⟩
      refine raiseM (S' := fun U => U = wA) (fun U hU => by rw [hU]; exact hk1) ?_
      have hS9 : (fun U => U = wA) _ := rfl
      refine tkS 10 17 (v := .string (strN (numB (n / 256) m ++ [n % 256]))) hS9 rfl rfl (by kernel_rfl) (by kernel_rfl) (by kernel_rfl) (by kernel_rfl) (wanted_none rfl) (fun _ _ _ h => h) (fun U hU => r_add9 (A := numB (n / 256) m) (B := [n % 256]) (by simp [numB_length]; omega) (by simp [eval_put_ne, eval_put_eq, size_put, hts]) (by simp [eval_put_ne, eval_put_eq, size_put, hts])) ?_
      refine tkS 11 4 (v := .string (strN (numB (n / 256) m ++ [n % 256]))) hS9 rfl rfl (by kernel_rfl) (by kernel_rfl) (by kernel_rfl) (by kernel_rfl) (wanted_none rfl) (fun _ _ _ h => h) (fun U hU => r_assign (by simp [eval_put_ne, eval_put_eq, size_put, hts])) ?_
      refine doneS (by kernel_rfl) ?_
      have hkB := hkA.trans hk1 (fun _ _ h => h)
      have hkF : Kept (fun _ => False) w wA := hkw.trans hkB (fun _ _ h => h)
      rw [hfr.out]
      clear hfr e0 e1 hts
      simp only [put_lit, put_none, List.set_cons_succ, List.set_cons_zero]
      go_wp2
      go_ret
      exact ⟨rfl, hkF⟩

theorem miss_step {l n k : Nat} (hn : 1 ≤ n) (hk : k < missN l n) : ¬ (l + k) % n = 0 := by
  rw [miss_nat hn] at hk
  split at hk
  · omega
  · have hr : l % n < n := Nat.mod_lt _ (by omega)
    rw [Nat.add_mod, Nat.mod_eq_of_lt (by omega : k < n), Nat.mod_eq_of_lt (by omega)]
    omega
theorem miss_end {l n : Nat} (hn : 1 ≤ n) : (l + missN l n) % n = 0 := by
  rw [miss_nat hn]
  split
  · rename_i h; rw [Nat.add_zero]; exact h
  · have hr : l % n < n := Nat.mod_lt _ (by omega)
    rw [Nat.add_mod, Nat.mod_eq_of_lt (by omega : n - l % n < n), show l % n + (n - l % n) = n by omega, Nat.mod_self]
end Go.Proofs.Ytcdlgaknpmlfeaa
