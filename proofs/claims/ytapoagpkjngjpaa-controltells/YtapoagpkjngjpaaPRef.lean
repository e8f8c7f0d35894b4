/-
  The reference's Fits, Number, Text and Padded.
-/
import Derived.Test.YtapoagpkjngjpaaPOps
namespace Go.Proofs.Ytapoagpkjngjpaa
open Go.RowKit Go.Shelf
set_option linter.unusedSimpArgs false
set_option linter.unusedVariables false
set_option maxRecDepth 100000

section
variable {ρ : Operand → Value} {w : World} {dst : Option Tmp} {ty : TypeId} {pos : String} {aft : Array Edge} {gd : Option (Nat × Bool)} {x y z : Operand}
theorem r_quo256 {n : Nat} (hn : n ≤ 9223372036854775807) (hx : ρ x = .int .i64 n) (hy : ρ y = .int .i64 256) : (execOp ρ ⟨dst, .binOp .quo 3 x y 3, ty, pos, aft, gd⟩).run Try.prog w = .ok (.value (.int .i64 ((n / 256 : Nat) : Int))) w := by
  obtain ⟨d, hd⟩ : ∃ d, n / 256 = d := ⟨_, rfl⟩
  rw [hd]
  have k1 : (n : Int) / 256 = (d : Int) := by omega
  have k2 : IntKind.i64.wrap (d : Int) = (d : Int) := by rw [IntKind.wrap_i64]; omega
  go_simp
theorem r_remG {k q : Int} (hq : q ≠ 0) (hx : ρ x = .int .i64 k) (hy : ρ y = .int .i64 q) : (execOp ρ ⟨dst, .binOp .rem 3 x y 3, ty, pos, aft, gd⟩).run Try.prog w = .ok (.value (.int .i64 (k.tmod q))) w := by
  go_simp
theorem r_rem256 {n : Nat} (hn : n ≤ 9223372036854775807) (hx : ρ x = .int .i64 n) (hy : ρ y = .int .i64 256) : (execOp ρ ⟨dst, .binOp .rem 3 x y 3, ty, pos, aft, gd⟩).run Try.prog w = .ok (.value (.int .i64 ((n % 256 : Nat) : Int))) w := by
  have k3 : ((n : Int)).tmod 256 = ((n % 256 : Nat) : Int) := by rw [Int.tmod_eq_emod_of_nonneg (by omega)]; omega
  have h := r_remG (ρ := ρ) (w := w) (dst := dst) (ty := ty) (pos := pos) (aft := aft) (gd := gd) (k := n) (q := 256) (by decide) hx hy
  rw [k3] at h
  exact h
theorem r_sub1 {m : Nat} (hm : m ≤ 100) (hx : ρ x = .int .i64 ((m + 1 : Nat) : Int)) (hy : ρ y = .int .i64 1) : (execOp ρ ⟨dst, .binOp .sub 3 x y 3, ty, pos, aft, gd⟩).run Try.prog w = .ok (.value (.int .i64 (m : Int))) w := by
  have k2 : IntKind.i64.wrap (((m + 1 : Nat) : Int) - 1) = (m : Int) := by rw [IntKind.wrap_i64]; omega
  have k3 : IntKind.i64.wrap (m : Int) = (m : Int) := by rw [IntKind.wrap_i64]; omega
  go_simp
end

set_option maxHeartbeats 2000000 in
theorem rnum_at (m : Nat) : m ≤ 8 → ∀ (w : World) (n : Nat), n ≤ 9223372036854775807 → Calls Try.prog 19 #[.int .i64 n, .int .i64 m] w fun e w' => e = .returned (.string (strN (numB n m))) ∧ Kept (fun _ => False) w w' := by
  induction m with
  | zero =>
    intro _ w n hn
    go_enter Try.func19, Try.ntmps19
    go_wp2
    go_ret
    exact ⟨rfl, Kept.refl _ _⟩
  | succ m ih0 =>
    intro hm w n hn
    have ih := ih0 (by omega)
    clear ih0
    have hm0 : ¬ ((m + 1 : Nat) : Int) = 0 := by omega
    have HN : Hid (numB n (m + 1) = numB (n / 256) m ++ [n % 256]) := hide rfl
    rw [HN.out]
    go_enter Try.func19, Try.ntmps19
    go_wp2
    refine hold_frame (p := fun fr => Code.wp Try.prog _ _ fr _) ?_
    intro fr hfr
    have e0 : fr.eval (.tmp 0) = .int .i64 n := by rw [hfr.out]; rfl
    have e1 : fr.eval (.tmp 1) = .int .i64 ((m + 1 : Nat) : Int) := by rw [hfr.out]; rfl
    have hts : fr.tmps.size = 18 := by rw [hfr.out]; rfl
    refine region_S0 99 Try.mixed ?_
    intro w0 hkw hheap
    have hS0 : Kept (fun _ => False) w0 w0 := Kept.refl (fun _ => False) w0
    refine ⟨Kept (fun _ => False) w0, ?_⟩
    refine tkS 0 7 (v := .int .i64 n) hS0 rfl rfl (by kernel_rfl) (by kernel_rfl) (by kernel_rfl) (by kernel_rfl) (wanted_none rfl) (fun _ _ _ h => h) (fun U hU => r_move (by simp [eval_put_ne, eval_put_eq, size_put, hts, e0])) ?_
    refine tkS 1 8 (v := .int .i64 ((n / 256 : Nat) : Int)) hS0 rfl rfl (by kernel_rfl) (by kernel_rfl) (by kernel_rfl) (by kernel_rfl) (wanted_none rfl) (fun _ _ _ h => h) (fun U hU => r_quo256 hn (by simp [eval_put_ne, eval_put_eq, size_put, hts]) rfl) ?_
    refine tkS 2 9 (v := .int .i64 ((m + 1 : Nat) : Int)) hS0 rfl rfl (by kernel_rfl) (by kernel_rfl) (by kernel_rfl) (by kernel_rfl) (wanted_none rfl) (fun _ _ _ h => h) (fun U hU => r_move (by simp [eval_put_ne, eval_put_eq, size_put, hts, e1])) ?_
    refine tkS 3 10 (v := .int .i64 (m : Int)) hS0 rfl rfl (by kernel_rfl) (by kernel_rfl) (by kernel_rfl) (by kernel_rfl) (wanted_none rfl) (fun _ _ _ h => h) (fun U hU => r_sub1 (by omega) (by simp [eval_put_ne, eval_put_eq, size_put, hts]) rfl) ?_
    refine tkS 5 12 (v := .int .i64 n) hS0 rfl rfl (by kernel_rfl) (by kernel_rfl) (by kernel_rfl) (by kernel_rfl) (wanted_none rfl) (fun _ _ _ h => h) (fun U hU => r_move (by simp [eval_put_ne, eval_put_eq, size_put, hts, e0])) ?_
    refine tkS 6 13 (v := .int .i64 ((n % 256 : Nat) : Int)) hS0 rfl rfl (by kernel_rfl) (by kernel_rfl) (by kernel_rfl) (by kernel_rfl) (wanted_none rfl) (fun _ _ _ h => h) (fun U hU => r_rem256 hn (by simp [eval_put_ne, eval_put_eq, size_put, hts]) rfl) ?_
    refine tkS 7 14 (v := .int .u8 ((n % 256 : Nat) : Int)) hS0 rfl rfl (by kernel_rfl) (by kernel_rfl) (by kernel_rfl) (by kernel_rfl) (wanted_none rfl) (fun _ _ _ h => h) (fun U hU => (r_conv35 (p := n % 256) (by simp [eval_put_ne, eval_put_eq, size_put, hts])).trans (by rw [Nat.mod_mod])) ?_
    refine twoS 4 8 (by kernel_rfl) ?_ ?_
    · refine stepCS 4 11 rfl rfl (wanted_none rfl) (r_call2 Try.func19 (by kernel_rfl) rfl rfl (by simp [eval_put_ne, eval_put_eq, size_put, hts]) (by simp [eval_put_ne, eval_put_eq, size_put, hts])) (ih w0 (n / 256) (by omega)) ?_
      rintro e w1 ⟨rfl, hk1⟩
      refine ⟨_, rfl, hk1, ?_⟩
      have hkA := Kept.alloc (fun _ => False) w1 (.cells (BV [n % 256]).toArray 5)
      have hsA : Src (w1.alloc (.cells (BV [n % 256]).toArray 5)) (.slice (some ⟨w1.heap.size, 0, none⟩) 1 1) [n % 256] := (Blk.new w1 (BV [n % 256]) 5).src (B := [n % 256]) (cap := 1) (by simp [BV]) (by simp; omega) (Nat.le_refl _)
      have hkB := hk1.trans hkA (fun _ _ h => h)
      refine oneVS 8 15 (by kernel_rfl) rfl rfl (wanted_none rfl) (r_bs25 (w := w1) [n % 256] rfl (by simp) (by simp [eval_put_ne, eval_put_eq, size_put, hts, BV])) hkB ?_
      generalize w1.alloc (.cells (BV [n % 256]).toArray 5) = wA at *
      generalize w1.heap.size = gA at *
      refine raiseM (S' := fun U => U = wA) (fun U hU => by rw [hU]; exact hkB) ?_
      have hS9 : (fun U => U = wA) _ := rfl
      refine tkS 9 16 (v := .string (strN [n % 256])) hS9 rfl rfl (by kernel_rfl) (by kernel_rfl) (by kernel_rfl) (by kernel_rfl) (wanted_none rfl) (fun _ _ _ h => h) (fun U hU => r_strS (v := .slice (some ⟨gA, 0, none⟩) 1 1) (by simp [eval_put_ne, eval_put_eq, size_put, hts]) (by rw [hU]; exact hsA)) ?_
      refine tkS 10 17 (v := .string (strN (numB (n / 256) m ++ [n % 256]))) hS9 rfl rfl (by kernel_rfl) (by kernel_rfl) (by kernel_rfl) (by kernel_rfl) (wanted_none rfl) (fun _ _ _ h => h) (fun U hU => r_add9 (A := numB (n / 256) m) (B := [n % 256]) (by simp [numB_length]; omega) (by simp [eval_put_ne, eval_put_eq, size_put, hts]) (by simp [eval_put_ne, eval_put_eq, size_put, hts])) ?_
      refine tkS 11 4 (v := .string (strN (numB (n / 256) m ++ [n % 256]))) hS9 rfl rfl (by kernel_rfl) (by kernel_rfl) (by kernel_rfl) (by kernel_rfl) (wanted_none rfl) (fun _ _ _ h => h) (fun U hU => r_assign (by simp [eval_put_ne, eval_put_eq, size_put, hts])) ?_
      refine doneS (by kernel_rfl) ?_
      have hkF : Kept (fun _ => False) w wA := hkw.trans hkB (fun _ _ h => h)
      rw [hfr.out]
      clear hfr e0 e1 hts
      simp only [put_lit, put_none, List.set_cons_succ, List.set_cons_zero]
      go_wp2
      go_ret
      exact ⟨rfl, hkF⟩
    · have hkA := Kept.alloc (fun _ => False) w0 (.cells (BV [n % 256]).toArray 5)
      have hsA : Src (w0.alloc (.cells (BV [n % 256]).toArray 5)) (.slice (some ⟨w0.heap.size, 0, none⟩) 1 1) [n % 256] := (Blk.new w0 (BV [n % 256]) 5).src (B := [n % 256]) (cap := 1) (by simp [BV]) (by simp; omega) (Nat.le_refl _)
      refine stepVS 8 15 rfl rfl (wanted_none rfl) (r_bs25 (w := w0) [n % 256] rfl (by simp) (by simp [eval_put_ne, eval_put_eq, size_put, hts, BV])) (fun _ => hkA) ?_
      generalize w0.alloc (.cells (BV [n % 256]).toArray 5) = wC at *
      generalize w0.heap.size = gA at *
      refine raiseM (S' := Kept (fun _ => False) wC) (fun U hU => hkA.trans hU (fun _ _ h => h)) ?_
      have hS8 : (Kept (fun _ => False) wC) _ := Kept.refl _ _
      refine tkS 9 16 (v := .string (strN [n % 256])) hS8 rfl rfl (by kernel_rfl) (by kernel_rfl) (by kernel_rfl) (by kernel_rfl) (wanted_none rfl) (fun _ _ _ h => h) (fun U hU => r_strS (v := .slice (some ⟨gA, 0, none⟩) 1 1) (by simp [eval_put_ne, eval_put_eq, size_put, hts]) (hsA.kept hU)) ?_
      refine oneCS 4 11 (by kernel_rfl) rfl rfl (wanted_none rfl) (r_call2 Try.func19 (by kernel_rfl) rfl rfl (by simp [eval_put_ne, eval_put_eq, size_put, hts]) (by simp [eval_put_ne, eval_put_eq, size_put, hts])) (ih wC (n / 256) (by omega)) ?_
      rintro e wA ⟨rfl, hk1⟩
      refine ⟨_, rfl, hk1, ?_⟩
      refine raiseM (S' := fun U => U = wA) (fun U hU => by rw [hU]; exact hk1) ?_
      have hS9 : (fun U => U = wA) _ := rfl
      refine tkS 10 17 (v := .string (strN (numB (n / 256) m ++ [n % 256]))) hS9 rfl rfl (by kernel_rfl) (by kernel_rfl) (by kernel_rfl) (by kernel_rfl) (wanted_none rfl) (fun _ _ _ h => h) (fun U hU => r_add9 (A := numB (n / 256) m) (B := [n % 256]) (by simp [numB_length]; omega) (by simp [eval_put_ne, eval_put_eq, size_put, hts]) (by simp [eval_put_ne, eval_put_eq, size_put, hts])) ?_
      refine tkS 11 4 (v := .string (strN (numB (n / 256) m ++ [n % 256]))) hS9 rfl rfl (by kernel_rfl) (by kernel_rfl) (by kernel_rfl) (by kernel_rfl) (wanted_none rfl) (fun _ _ _ h => h) (fun U hU => r_assign (by simp [eval_put_ne, eval_put_eq, size_put, hts])) ?_
      refine doneS (by kernel_rfl) ?_
      have hkB := hkA.trans hk1 (fun _ _ h => h)
      have hkF : Kept (fun _ => False) w wA := hkw.trans hkB (fun _ _ h => h)
      rw [hfr.out]
      clear hfr e0 e1 hts
      simp only [put_lit, put_none, List.set_cons_succ, List.set_cons_zero]
      go_wp2
      go_ret
      exact ⟨rfl, hkF⟩

set_option maxHeartbeats 2000000 in
theorem rtext_at (w : World) (v : Value) (B : List Nat) (hs : Src w v B) (hl : B.length ≤ 1000000) : Calls Try.prog 40 #[v] w fun e w' => e = .returned (.string (strN (textB B))) ∧ Kept (fun _ => False) w w' := by
  have HS := hide hs
  obtain ⟨bo, c, e, _⟩ := hs
  subst e
  have HN : Hid (textB B = numB B.length 2 ++ B) := hide rfl
  rw [HN.out]
  go_enter Try.func40, Try.ntmps40
  go_wp2
  refine hold_frame (p := fun fr => Code.wp Try.prog _ _ fr _) ?_
  intro fr hfr
  have e0 : fr.eval (.tmp 0) = .slice bo B.length c := by rw [hfr.out]; rfl
  have hts : fr.tmps.size = 9 := by rw [hfr.out]; rfl
  refine region_S0 99 Try.mixed ?_
  intro w0 hkw hheap
  have hS0 : Kept (fun _ => False) w0 w0 := Kept.refl (fun _ => False) w0
  refine ⟨Kept (fun _ => False) w0, ?_⟩
  refine tkS 0 3 (v := .slice bo B.length c) hS0 rfl rfl (by kernel_rfl) (by kernel_rfl) (by kernel_rfl) (by kernel_rfl) (wanted_none rfl) (fun _ _ _ h => h) (fun U hU => r_move (by simp [eval_put_ne, eval_put_eq, size_put, hts, e0])) ?_
  refine tkS 1 4 (v := .int .i64 (B.length : Int)) hS0 rfl rfl (by kernel_rfl) (by kernel_rfl) (by kernel_rfl) (by kernel_rfl) (wanted_none rfl) (fun _ _ _ h => h) (fun U hU => r_len25 (ao := bo) (l := B.length) (c := c) (by simp [eval_put_ne, eval_put_eq, size_put, hts])) ?_
  refine tkS 3 6 (v := .slice bo B.length c) hS0 rfl rfl (by kernel_rfl) (by kernel_rfl) (by kernel_rfl) (by kernel_rfl) (wanted_none rfl) (fun _ _ _ h => h) (fun U hU => r_move (by simp [eval_put_ne, eval_put_eq, size_put, hts, e0])) ?_
  refine tkS 4 7 (v := .string (strN B)) hS0 rfl rfl (by kernel_rfl) (by kernel_rfl) (by kernel_rfl) (by kernel_rfl) (wanted_none rfl) (fun _ _ _ h => h) (fun U hU => r_strS (v := .slice bo B.length c) (by simp [eval_put_ne, eval_put_eq, size_put, hts]) (HS.out.kept (hkw.trans hU (fun _ _ h => h)))) ?_
  refine oneCS 2 5 (by kernel_rfl) rfl rfl (wanted_none rfl) (r_call2 Try.func19 (by kernel_rfl) rfl rfl (by simp [eval_put_ne, eval_put_eq, size_put, hts]) rfl) (rnum_at 2 (by decide) w0 B.length (by omega)) ?_
  rintro e w1 ⟨rfl, hk1⟩
  refine ⟨_, rfl, hk1, ?_⟩
  refine raiseM (S' := fun U => U = w1) (fun U hU => by rw [hU]; exact hk1) ?_
  have hS9 : (fun U => U = w1) _ := rfl
  refine tkS 5 8 (v := .string (strN (numB B.length 2 ++ B))) hS9 rfl rfl (by kernel_rfl) (by kernel_rfl) (by kernel_rfl) (by kernel_rfl) (wanted_none rfl) (fun _ _ _ h => h) (fun U hU => r_add9 (A := numB B.length 2) (B := B) (by simp [numB_length]; omega) (by simp [eval_put_ne, eval_put_eq, size_put, hts]) (by simp [eval_put_ne, eval_put_eq, size_put, hts])) ?_
  refine tkS 6 2 (v := .string (strN (numB B.length 2 ++ B))) hS9 rfl rfl (by kernel_rfl) (by kernel_rfl) (by kernel_rfl) (by kernel_rfl) (wanted_none rfl) (fun _ _ _ h => h) (fun U hU => r_assign (by simp [eval_put_ne, eval_put_eq, size_put, hts])) ?_
  refine doneS (by kernel_rfl) ?_
  have hkF : Kept (fun _ => False) w w1 := hkw.trans hk1 (fun _ _ h => h)
  rw [hfr.out]
  clear hfr e0 hts
  simp only [put_lit, put_none, List.set_cons_succ, List.set_cons_zero]
  go_wp2
  go_ret
  exact ⟨rfl, hkF⟩

theorem miss_step {l n k : Nat} (hn : 1 ≤ n) (hk : k < missN l n) : ¬ (l + k) % n = 0 := by
  rw [miss_nat hn] at hk
  split at hk
  · omega
  · have hr : l % n < n := Nat.mod_lt _ (by omega)
    rw [Nat.add_mod, Nat.mod_eq_of_lt (by omega : k < n), Nat.mod_eq_of_lt (by omega)]
    omega
theorem miss_end {l n : Nat} (hn : 1 ≤ n) : (l + missN l n) % n = 0 := by
  rw [miss_nat hn]
  split
  · rename_i h; rw [Nat.add_zero]; exact h
  · have hr : l % n < n := Nat.mod_lt _ (by omega)
    rw [Nat.add_mod, Nat.mod_eq_of_lt (by omega : n - l % n < n), show l % n + (n - l % n) = n by omega, Nat.mod_self]
set_option maxHeartbeats 2000000 in
theorem rpad_at (w : World) (A : List Nat) (hl : A.length ≤ 1000000) (n : Int) (hn : n ≤ 1000) : Calls Try.prog 42 #[.string (strN A), .int .i64 n] w fun e w' => e = .returned (.string (strN (padN A n))) ∧ w = w' := by
  by_cases h1 : n < 1
  · have HP : Hid (padN A n = A) := hide (by simp [padN, miss_low h1])
    have h1' : ¬ n > 0 := by omega
    rw [HP.out]
    go_enter Try.func42, Try.ntmps42
    generalize strN A = s
    go_wp2
    go_loopw [0] (fun v wr => v = .string s ∧ w = wr) (fun _ _ => 0)
    case atStart => exact ⟨rfl, rfl⟩
    case round =>
      obtain ⟨rfl, rfl⟩ := hrel
      go_wp2
      go_ret
      exact ⟨rfl, rfl⟩
  · obtain ⟨q, rfl⟩ : ∃ q : Nat, n = q := ⟨n.toNat, by omega⟩
    have hq : 1 ≤ q := by omega
    have hmi := miss_le A.length hn
    have HP : Hid (padN A q = A ++ List.replicate (missN A.length q) 0) := hide rfl
    rw [HP.out]
    have k6 : ¬ (q : Int) = 0 := by omega
    go_enter Try.func42, Try.ntmps42
    go_wp2
    go_loopw [0] (fun v wr => ∃ k : Nat, k ≤ missN A.length q ∧ v = .string (strN (A ++ List.replicate k 0)) ∧ w = wr) (fun v _ => match v with | .string s => missN A.length q + A.length - s.size | _ => 0)
    case atStart => exact ⟨0, by omega, by simp, rfl⟩
    case round =>
      obtain ⟨k, hk, rfl, rfl⟩ := hrel
      obtain ⟨t, ht⟩ : ∃ t, A.length + k = t := ⟨_, rfl⟩
      have hsz : (strN (A ++ List.replicate k 0)).size = t := by rw [strN_size, ← ht]; simp
      obtain ⟨r, hr⟩ : ∃ r, t % q = r := ⟨_, rfl⟩
      have k2 : ((t : Int)) % (q : Int) = (r : Int) := by rw [← hr]; push_cast; rfl
      have k3 : ((t : Int)).tmod (q : Int) = (r : Int) := by rw [Int.tmod_eq_emod_of_nonneg (by omega)]; exact k2
      by_cases hlt : k < missN A.length q
      · have hr0 : ¬ (r : Int) = 0 := by have := miss_step hq hlt; rw [ht, hr] at this; omega
        have HA : Hid (A ++ List.replicate (k + 1) 0 = A ++ List.replicate k 0 ++ [0]) := hide (by rw [List.replicate_succ', List.append_assoc])
        have hlen : (A ++ List.replicate k 0).length ≤ 2000000 := by simp; omega
        generalize A ++ List.replicate k 0 = C at *
        have HC0 : Hid ((strN C).size = A.length + k) := hide (hsz.trans ht.symm)
        clear hr ht
        go_wp2_with (with_reducible refine stop_bin .add ?_)
        refine hide ?_
        refine wpList_run rfl (r_add9 (A := C) (B := [0]) (by simp; omega) rfl rfl) ?_
        rw [← HA.out]
        have hsz2 : (strN (A ++ List.replicate (k + 1) 0)).size = A.length + (k + 1) := by rw [strN_size]; simp
        go_wp2
        go_roundw
        case rel => exact ⟨k + 1, by omega, rfl, trivial⟩
        case measure => simp [hsz2, HC0.out]; omega
      · obtain rfl : k = missN A.length q := by omega
        have hr0 : r = 0 := by have := miss_end (l := A.length) hq; rw [ht, hr] at this; exact this
        subst hr0
        obtain ⟨s, hs⟩ : ∃ s, strN (A ++ List.replicate (missN A.length q) 0) = s := ⟨_, rfl⟩
        rw [hs] at hsz ⊢
        have HS := hide hs
        clear hr ht hs
        go_wp2
        go_ret
        exact ⟨by rw [HS.out]; rfl, rfl⟩

end Go.Proofs.Ytapoagpkjngjpaa

/-
  The reference's scan: Number, Text, Noughts.
-/
namespace Go.Proofs.Ytapoagpkjngjpaa
open Go.RowKit Go.Shelf
set_option linter.unusedSimpArgs false
set_option linter.unusedVariables false
set_option maxRecDepth 100000

/-- The reference's scan at x. -/
def RefAt (w : World) (x : Nat) (B : List Nat) (E : Int) : Prop := Blk w x [.string (strN B), .int .i64 E] 63
theorem strN_at (B : List Nat) (i : Nat) (hi : i < B.length) (hB : ∀ x ∈ B, x < 256) (h : i < (strN B).size) : ((strN B)[i]'h).toNat = B[i] := by
  have e : (strN B).data[i]? = some (UInt8.ofNat B[i]) := by rw [strN_data]; simp [hi]
  have e2 : (strN B)[i]'h = UInt8.ofNat B[i] := by
    have h3 := (Array.getElem?_eq_some_iff.1 e).2
    exact h3
  have := hB _ (List.getElem_mem hi)
  rw [e2]
  simp
  omega

section
variable {P : Program} {ops : Array Oper} {Q : Exit → Act → World → Prop} {a : Act} {w : World} {rest : List Oper} {dst : Option Tmp} {ty : TypeId} {pos : String} {aft : Array Edge} {x y : Operand}
theorem stop_index (t : TypeId) (h : Hid (wpList P ops Q (⟨dst, .index t x y, ty, pos, aft, none⟩ :: rest) a w)) : wpList P ops Q (⟨dst, .index t x y, ty, pos, aft, none⟩ :: rest) a w := h.out
end
section
variable {ρ : Operand → Value} {w : World} {dst : Option Tmp} {ty : TypeId} {pos : String} {aft : Array Edge} {gd : Option (Nat × Bool)} {x y z : Operand}
theorem r_idx9 {B : List Nat} (i : Nat) (hi : i < B.length) (hB : ∀ x ∈ B, x < 256) (hx : ρ x = .string (strN B)) (hy : ρ y = .int .i64 i) :
    (execOp ρ ⟨dst, .index 9 x y, ty, pos, aft, gd⟩).run Try.prog w = .ok (.value (.int .u8 (B[i] : Int))) w := by
  have hsz : (strN B).size = B.length := strN_size B
  have h0 : ¬ ((i : Int) < 0) := by omega
  have h1 : (i : Int) < (B.length : Int) := by omega
  go_simp
  rw [strN_at B i hi hB]
theorem r_lo9 {B : List Nat} (l : Nat) (hl : l ≤ B.length) (hx : ρ x = .string (strN B)) (hy : ρ y = .int .i64 l) :
    (execOp ρ ⟨dst, .slice 9 x (some y) none none, ty, pos, aft, gd⟩).run Try.prog w = .ok (.value (.string (strN (B.drop l)))) w := by
  have hsz : (strN B).size = B.length := strN_size B
  have h2 : (0 : Int) ≤ (l : Int) ∧ (l : Int) ≤ (B.length : Int) := by omega
  have e := strN_extract B l B.length
  rw [List.take_length] at e
  simp [execOp, Instr.sliceAt, run_underlying Try.underlying9, Instr.slice, hx, hy, Instr.sliceBounds, Instr.sliceBound, asIntOf, hsz, h2, hl, e]
theorem r_hi9 {B : List Nat} (h : Nat) (hl : h ≤ B.length) (hx : ρ x = .string (strN B)) (hy : ρ y = .int .i64 h) :
    (execOp ρ ⟨dst, .slice 9 x none (some y) none, ty, pos, aft, gd⟩).run Try.prog w = .ok (.value (.string (strN (B.take h)))) w := by
  have hsz : (strN B).size = B.length := strN_size B
  have h2 : (0 : Int) ≤ (h : Int) ∧ (h : Int) ≤ (B.length : Int) := by omega
  have e := strN_extract B 0 h
  rw [List.drop_zero] at e
  simp [execOp, Instr.sliceAt, run_underlying Try.underlying9, Instr.slice, hx, hy, Instr.sliceBounds, Instr.sliceBound, asIntOf, hsz, h2, hl, e]
end

theorem first_no8 {B : List Nat} (hB : ∀ x ∈ B, x < 256) (hl : 8 ≤ B.length) (h : ¬ B[0]'(by omega) ≤ 127) : firstN B 8 = none := by
  have h1 := firstN_is (B := B) (m := 8) (by decide) (by decide) hl
  have h2 := eight_lt B hB hl
  have e : B.getD 0 0 = B[0]'(by omega) := by rw [List.getD_eq_getElem?_getD, List.getElem?_eq_getElem (by omega)]; rfl
  rw [e] at h2
  rw [show ((8 : Nat) : Int) = 8 from rfl] at h1
  rw [h1, if_neg (fun h3 => h (h2.1 h3))]
theorem RefAt.fail {w : World} {x : Nat} {B : List Nat} {E : Int} (h : RefAt w x B E) : RefAt (w.setCell ⟨x, 1, none⟩ (.int .i64 20)) x B 20 ∧ Kept (fun k => k = x) w (w.setCell ⟨x, 1, none⟩ (.int .i64 20)) :=
  ⟨by have h2 := Blk.setCell h 1 (.int .i64 20); unfold RefAt; simpa using h2, Kept.setCell (S := fun k => k = x) w ⟨x, 1, none⟩ (.int .i64 20) rfl⟩
theorem RefAt.go {w : World} {x : Nat} {B C : List Nat} {E : Int} (h : RefAt w x B E) : RefAt (w.setCell ⟨x, 0, none⟩ (.string (strN C))) x C E ∧ Kept (fun k => k = x) w (w.setCell ⟨x, 0, none⟩ (.string (strN C))) :=
  ⟨by have h2 := Blk.setCell h 0 (.string (strN C)); unfold RefAt; simpa using h2, Kept.setCell (S := fun k => k = x) w ⟨x, 0, none⟩ (.string (strN C)) rfl⟩

set_option maxHeartbeats 4000000 in
theorem refnum_at (w : World) (x : Nat) (B : List Nat) (hB : ∀ y ∈ B, y < 256) (E : Int) (h : RefAt w x B E) (hl : B.length ≤ 1000000) (m : Int) (hm : m ≤ 9223372036854775807) :
    Calls Try.prog 27 #[.pointer (some ⟨x, 0, none⟩), .int .i64 m] w fun e w' => e = .returned (.int .i64 (scanNum B E m).1) ∧ RefAt w' x (scanNum B E m).2.1 (scanNum B E m).2.2 ∧ Kept (fun k => k = x) w w' := by
  have HH := hide h
  have c0 : w.cell? ⟨x, 0, none⟩ = some (.string (strN B)) := Blk.cell h 0
  have c1 : w.cell? ⟨x, 1, none⟩ = some (.int .i64 E) := Blk.cell h 1
  have f0 := Blk.frozen h 0
  have f1 := Blk.frozen h 1
  have hsz : (strN B).size = B.length := strN_size B
  have HB := hide hB
  clear h hB
  by_cases hE : E = 0
  · subst hE
    by_cases h1 : m < 1
    · rw [sN_none (firstN_no (by omega))]
      go_enter Try.func27, Try.ntmps27
      go_wp2
      go_ret
      exact ⟨rfl, HH.out.fail.1, HH.out.fail.2⟩
    · by_cases h8 : m > 8
      · rw [sN_none (firstN_no (by omega))]
        go_enter Try.func27, Try.ntmps27
        go_wp2
        go_ret
        exact ⟨rfl, HH.out.fail.1, HH.out.fail.2⟩
      · obtain ⟨q, rfl⟩ : ∃ q : Nat, m = q := ⟨m.toNat, by omega⟩
        by_cases hfew : B.length < q
        · rw [sN_none (firstN_few (by omega))]
          have hfew' : (B.length : Int) < (q : Int) := by omega
          go_enter Try.func27, Try.ntmps27
          go_wp2
          go_ret
          exact ⟨rfl, HH.out.fail.1, HH.out.fail.2⟩
        · have hfew' : ¬ (B.length : Int) < (q : Int) := by omega
          have hb0 : 0 < B.length := by omega
          have hi0 : ((strN B)[0]'(by omega)).toNat = B[0] := strN_at B 0 hb0 HB.out (by omega)
          obtain ⟨b0, hb0'⟩ : ∃ b, B[0] = b := ⟨_, rfl⟩
          rw [hb0'] at hi0
          by_cases hbad : q = 8 ∧ 127 < b0
          · obtain ⟨rfl, hb127⟩ := hbad
            rw [show ((8 : Nat) : Int) = 8 from rfl, sN_none (first_no8 HB.out (by omega) (by rw [hb0']; omega))]
            clear hb0'
            go_enter Try.func27, Try.ntmps27
            go_wp2
            go_ret
            exact ⟨rfl, HH.out.fail.1, HH.out.fail.2⟩
          · obtain ⟨hf1, hf2⟩ := first_yes HB.out q (by omega) (by omega) (by omega) (fun e => by rw [hb0']; omega)
            rw [sN_some hf1, Int.toNat_natCast]
            have HV := hide hf2
            have HLoop : ∀ (k : Nat) (hk : k < q), Hid (valN (B.take (k + 1)) = 256 * valN (B.take k) + B[k]'(by omega)) ∧ valN (B.take (k + 1)) < 9223372036854775808 := by
              intro k hk
              refine ⟨hide ?_, ?_⟩
              · rw [← List.take_append_getElem (by omega : k < B.length), valN_snoc]; omega
              · exact Nat.lt_of_le_of_lt (val_take_lt B HB.out q (k + 1) (by omega) (by omega)) hf2
            have HLp := hide HLoop
            clear HLoop hf1 hf2 hb0'
            by_cases hq8 : q = 8
            · subst hq8
              have hb127 : ¬ b0 > 127 := by omega
              clear hbad
              go_enter Try.func27, Try.ntmps27
              go_wp2
              go_loopw [5, 6] (fun v i wr => ∃ k : Nat, k ≤ 8 ∧ v = .int .i64 (valN (B.take k) : Nat) ∧ i = .int .i64 k ∧ w = wr) (fun _ i _ => 8 - (intOf i).toNat)
              case atStart => exact ⟨0, by omega, rfl, rfl, rfl⟩
              case round =>
                obtain ⟨k, hk, rfl, rfl, rfl⟩ := hrel
                by_cases hlt : k < 8
                · obtain ⟨HT, hTl⟩ := HLp.out k hlt
                  have hx := HB.out _ (List.getElem_mem (by omega : k < B.length))
                  have HI : Hid (∀ (ρ : Operand → Value) (dst : Option Tmp) (ty : TypeId) (pos : String) (aft : Array Edge) (x y : Operand), ρ x = .string (strN B) → ρ y = .int .i64 k → (execOp ρ ⟨dst, .index 9 x y, ty, pos, aft, none⟩).run Try.prog w = .ok (.value (.int .u8 (B[k]'(by omega) : Int))) w) := hide (fun ρ dst ty pos aft x y h1 h2 => r_idx9 k (by omega) HB.out h1 h2)
                  obtain ⟨t, ht⟩ : ∃ t, valN (B.take (k + 1)) = t := ⟨_, rfl⟩
                  rw [ht] at HT hTl
                  generalize valN (B.take k) = r at *
                  generalize B[k]'(by omega) = y at *
                  have hw1 : IntKind.i64.wrap (256 * (r : Int)) = 256 * (r : Int) := by have := HT.out; rw [IntKind.wrap_i64]; omega
                  have hw2 : IntKind.i64.wrap (256 * (r : Int) + (y : Int)) = (t : Int) := by have := HT.out; rw [IntKind.wrap_i64]; omega
                  have hw3 : IntKind.i64.wrap (y : Int) = (y : Int) := by rw [IntKind.wrap_i64]; omega
                  have HTt := hide ht
                  clear ht
                  go_wp2_with (with_reducible refine stop_index 9 ?_)
                  refine hide ?_
                  refine wpList_run rfl (HI.out _ _ _ _ _ _ _ rfl rfl) ?_
                  go_wp2
                  go_roundw
                  case rel => exact ⟨k + 1, by omega, by rw [HTt.out], by go_num, trivial⟩
                  case measure => simp [intOf]; omega
                · obtain rfl : k = 8 := by omega
                  obtain ⟨t, ht⟩ : ∃ t, valN (B.take 8) = t := ⟨_, rfl⟩
                  rw [ht]
                  have HTt := hide ht
                  clear ht
                  obtain ⟨hg1, hg2⟩ := HH.out.go (C := B.drop 8)
                  have HG1 := hide hg1
                  have HG2 := hide hg2
                  clear hg1 hg2
                  go_wp2_with (with_reducible refine stop_slice 9 ?_)
                  refine hide ?_
                  refine wpList_run rfl (r_lo9 (B := B) 8 (by omega) rfl rfl) ?_
                  generalize strN (B.drop 8) = sd at *
                  go_wp2
                  go_ret
                  exact ⟨by rw [HTt.out]; rfl, HG1.out, HG2.out⟩
            · have hq8' : ¬ ((q : Int) = 8) := by omega
              clear hbad
              go_enter Try.func27, Try.ntmps27
              go_wp2
              go_loopw [5, 6] (fun v i wr => ∃ k : Nat, k ≤ q ∧ v = .int .i64 (valN (B.take k) : Nat) ∧ i = .int .i64 k ∧ w = wr) (fun _ i _ => q - (intOf i).toNat)
              case atStart => exact ⟨0, by omega, rfl, rfl, rfl⟩
              case round =>
                obtain ⟨k, hk, rfl, rfl, rfl⟩ := hrel
                by_cases hlt : k < q
                · obtain ⟨HT, hTl⟩ := HLp.out k hlt
                  have hx := HB.out _ (List.getElem_mem (by omega : k < B.length))
                  have HI : Hid (∀ (ρ : Operand → Value) (dst : Option Tmp) (ty : TypeId) (pos : String) (aft : Array Edge) (x y : Operand), ρ x = .string (strN B) → ρ y = .int .i64 k → (execOp ρ ⟨dst, .index 9 x y, ty, pos, aft, none⟩).run Try.prog w = .ok (.value (.int .u8 (B[k]'(by omega) : Int))) w) := hide (fun ρ dst ty pos aft x y h1 h2 => r_idx9 k (by omega) HB.out h1 h2)
                  obtain ⟨t, ht⟩ : ∃ t, valN (B.take (k + 1)) = t := ⟨_, rfl⟩
                  rw [ht] at HT hTl
                  generalize valN (B.take k) = r at *
                  generalize B[k]'(by omega) = y at *
                  have hw1 : IntKind.i64.wrap (256 * (r : Int)) = 256 * (r : Int) := by have := HT.out; rw [IntKind.wrap_i64]; omega
                  have hw2 : IntKind.i64.wrap (256 * (r : Int) + (y : Int)) = (t : Int) := by have := HT.out; rw [IntKind.wrap_i64]; omega
                  have hw3 : IntKind.i64.wrap (y : Int) = (y : Int) := by rw [IntKind.wrap_i64]; omega
                  have HTt := hide ht
                  clear ht
                  go_wp2_with (with_reducible refine stop_index 9 ?_)
                  refine hide ?_
                  refine wpList_run rfl (HI.out _ _ _ _ _ _ _ rfl rfl) ?_
                  go_wp2
                  go_roundw
                  case rel => exact ⟨k + 1, by omega, by rw [HTt.out], by go_num, trivial⟩
                  case measure => simp [intOf]; omega
                · obtain rfl : k = q := by omega
                  obtain ⟨t, ht⟩ : ∃ t, valN (B.take k) = t := ⟨_, rfl⟩
                  rw [ht]
                  have HTt := hide ht
                  clear ht
                  obtain ⟨hg1, hg2⟩ := HH.out.go (C := B.drop k)
                  have HG1 := hide hg1
                  have HG2 := hide hg2
                  clear hg1 hg2
                  go_wp2_with (with_reducible refine stop_slice 9 ?_)
                  refine hide ?_
                  refine wpList_run rfl (r_lo9 (B := B) k (by omega) rfl rfl) ?_
                  generalize strN (B.drop k) = sd at *
                  go_wp2
                  go_ret
                  exact ⟨by rw [HTt.out]; rfl, HG1.out, HG2.out⟩
  · rw [scanNum_err m hE]
    go_enter Try.func27, Try.ntmps27
    go_wp2
    go_ret
    exact ⟨rfl, HH.out, Kept.refl _ _⟩

end Go.Proofs.Ytapoagpkjngjpaa

/-
  The reference's scan: Text, Noughts.
-/
namespace Go.Proofs.Ytapoagpkjngjpaa
open Go.RowKit Go.Shelf
set_option linter.unusedSimpArgs false
set_option linter.unusedVariables false
set_option maxRecDepth 100000

set_option maxHeartbeats 4000000 in
theorem reftext_at (w : World) (x : Nat) (B : List Nat) (hB : ∀ y ∈ B, y < 256) (E : Int) (h : RefAt w x B E) (hl : B.length ≤ 1000000) (m : Int) :
    Calls Try.prog 47 #[.pointer (some ⟨x, 0, none⟩), .int .i64 m] w fun e w' => e = .returned (.string (strN (scanText B E m).1)) ∧ RefAt w' x (scanText B E m).2.1 (scanText B E m).2.2 ∧ Kept (fun k => k = x) w w' := by
  have HN := hide (refnum_at w x B hB E h hl 2 (by decide))
  have c0 : w.cell? ⟨x, 0, none⟩ = some (.string (strN B)) := Blk.cell h 0
  have HB := hide hB
  clear h hB
  by_cases hE : E = 0
  · subst hE
    cases hfn : firstN B 2 with
    | none =>
      rw [sN_none hfn] at HN
      rw [sT_none hfn]
      simp only at HN
      generalize strN B = sB at *
      go_enter Try.func47, Try.ntmps47
      go_wp2_with fail
      refine HN.out.mono ?_
      rintro e w1 ⟨rfl, h1, hk1⟩
      have d1 : w1.cell? ⟨x, 1, none⟩ = some (.int .i64 20) := Blk.cell h1 1
      have H1 := hide h1
      clear h1 c0 hfn
      go_wp2
      go_ret
      exact ⟨rfl, H1.out, hk1⟩
    | some n =>
      rw [sN_some hfn] at HN
      simp only [show (2 : Int).toNat = 2 from rfl] at HN
      obtain ⟨hq1, hq2, hml, hnv, hn⟩ := firstN_some hfn
      clear hnv hq1 hq2
      have hsz : (strN (B.drop 2)).size = B.length - 2 := by rw [strN_size]; simp
      obtain ⟨r, hr⟩ : ∃ r, B.length - 2 = r := ⟨_, rfl⟩
      rw [hr] at hsz
      by_cases hm : (n : Int) ≤ m
      · by_cases hL : n + 2 ≤ B.length
        · rw [sT_some hfn ⟨hm, hL⟩, ← List.drop_drop]
          have hm' : ¬ (n : Int) > m := by omega
          have hL' : ¬ (n : Int) > (r : Int) := by omega
          have hnl : n ≤ (B.drop 2).length := by simp; omega
          have hTT : (strN ((B.drop 2).take n)) = strN ((B.drop 2).take n) := rfl
          generalize B.drop 2 = C at *
          clear hfn hr hTT
          go_enter Try.func47, Try.ntmps47
          go_wp2_with fail
          refine HN.out.mono ?_
          rintro e w1 ⟨rfl, h1, hk1⟩
          have d0 : w1.cell? ⟨x, 0, none⟩ = some (.string (strN C)) := Blk.cell h1 0
          have d1 : w1.cell? ⟨x, 1, none⟩ = some (.int .i64 0) := Blk.cell h1 1
          have g0 := Blk.frozen h1 0
          obtain ⟨hg1, hg2⟩ := h1.go (C := C.drop n)
          have HG1 := hide hg1
          have HG2 := hide (hk1.trans hg2 (fun _ _ h => h))
          clear h1 c0 hg1 hg2 hk1
          go_wp2_with (with_reducible refine stop_slice 9 ?_)
          refine hide ?_
          refine wpList_run rfl (r_hi9 (B := C) n hnl rfl rfl) ?_
          obtain ⟨s1, hs1⟩ : ∃ s, strN (C.take n) = s := ⟨_, rfl⟩
          rw [hs1]
          have HS1 := hide hs1
          clear hs1
          go_wp2_with (with_reducible refine stop_slice 9 ?_)
          refine hide ?_
          refine wpList_run rfl (r_lo9 (B := C) n hnl rfl rfl) ?_
          generalize strN (C.drop n) = s2 at *
          go_wp2
          go_ret
          exact ⟨by rw [HS1.out]; rfl, HG1.out, HG2.out⟩
        · rw [sT_no hfn (fun h => hL h.2)]
          have hm' : ¬ (n : Int) > m := by omega
          have hL' : (n : Int) > (r : Int) := by omega
          generalize B.drop 2 = C at *
          clear hfn hr
          go_enter Try.func47, Try.ntmps47
          go_wp2_with fail
          refine HN.out.mono ?_
          rintro e w1 ⟨rfl, h1, hk1⟩
          have d0 : w1.cell? ⟨x, 0, none⟩ = some (.string (strN C)) := Blk.cell h1 0
          have d1 : w1.cell? ⟨x, 1, none⟩ = some (.int .i64 0) := Blk.cell h1 1
          have g0 := Blk.frozen h1 0
          obtain ⟨hg1, hg2⟩ := h1.go (C := B)
          have e1 : (w1.setCell ⟨x, 0, none⟩ (.string (strN B))).cell? ⟨x, 1, none⟩ = some (.int .i64 0) := Blk.cell hg1 1
          have e2 := Blk.frozen hg1 1
          obtain ⟨hj1, hj2⟩ := hg1.fail
          have HG1 := hide hj1
          have HG2 := hide ((hk1.trans hg2 (fun _ _ h => h)).trans hj2 (fun _ _ h => h))
          clear h1 c0 hg1 hg2 hk1 hj1 hj2
          generalize strN B = sB at *
          go_wp2
          go_ret
          exact ⟨rfl, HG1.out, HG2.out⟩
      · rw [sT_no hfn (fun h => hm h.1)]
        have hm' : (n : Int) > m := by omega
        generalize B.drop 2 = C at *
        clear hfn hr
        go_enter Try.func47, Try.ntmps47
        go_wp2_with fail
        refine HN.out.mono ?_
        rintro e w1 ⟨rfl, h1, hk1⟩
        have d0 : w1.cell? ⟨x, 0, none⟩ = some (.string (strN C)) := Blk.cell h1 0
        have d1 : w1.cell? ⟨x, 1, none⟩ = some (.int .i64 0) := Blk.cell h1 1
        have g0 := Blk.frozen h1 0
        obtain ⟨hg1, hg2⟩ := h1.go (C := B)
        have e1 : (w1.setCell ⟨x, 0, none⟩ (.string (strN B))).cell? ⟨x, 1, none⟩ = some (.int .i64 0) := Blk.cell hg1 1
        have e2 := Blk.frozen hg1 1
        obtain ⟨hj1, hj2⟩ := hg1.fail
        have HG1 := hide hj1
        have HG2 := hide ((hk1.trans hg2 (fun _ _ h => h)).trans hj2 (fun _ _ h => h))
        clear h1 c0 hg1 hg2 hk1 hj1 hj2
        generalize strN B = sB at *
        go_wp2
        go_ret
        exact ⟨rfl, HG1.out, HG2.out⟩
  · rw [scanNum_err 2 hE] at HN
    rw [sT_err m hE]
    simp only at HN
    generalize strN B = sB at *
    go_enter Try.func47, Try.ntmps47
    go_wp2_with fail
    refine HN.out.mono ?_
    rintro e w1 ⟨rfl, h1, hk1⟩
    have d1 : w1.cell? ⟨x, 1, none⟩ = some (.int .i64 E) := Blk.cell h1 1
    have H1 := hide h1
    clear h1 c0
    go_wp2
    go_ret
    exact ⟨rfl, H1.out, hk1⟩

theorem nN_end {B : List Nat} (h : ∀ j (hj : j < B.length), B[j] = 0) (E : Int) : noughtsN B E = decide (E = 0) := by
  have h0 := nN_all h
  unfold noughtsN at h0 ⊢
  simp only [decide_true, Bool.true_and] at h0
  rw [h0, Bool.and_true]
end Go.Proofs.Ytapoagpkjngjpaa
