/-
  ImageFrom, over bytes.
-/
import Derived.Test.YtlpjhgcafkdhdaaIFrom
namespace Go.Proofs.Ytlpjhgcafkdhdaa
open Go.RowKit Go.Shelf
set_option linter.unusedSimpArgs false
set_option linter.unusedVariables false
set_option maxRecDepth 100000

section
variable {ρ : Operand → Value} {w : World} {dst : Option Tmp} {ty : TypeId} {pos : String} {aft : Array Edge} {gd : Option (Nat × Bool)} {x y z : Operand}
theorem r_e25 {p q : Int} {r : Bool} (hx : ρ x = .int .i64 p) (hy : ρ y = .int .i64 q) (h : decide (p = q) = r) : (execOp ρ ⟨dst, .binOp .eql 25 x y 25, ty, pos, aft, gd⟩).run Try.prog w = .ok (.value (.bool r)) w := by
  subst h
  go_simp
  rfl
theorem r_eqSS {A : List Nat} (hx : ρ x = .string (strN A)) (hy : ρ y = .string (strN A)) : (execOp ρ ⟨dst, .binOp .eql 9 x y 9, ty, pos, aft, gd⟩).run Try.prog w = .ok (.value (.bool true)) w := by
  have h := r_eql9 (dst := dst) (ty := ty) (pos := pos) (aft := aft) (gd := gd) (w := w) hx hy
  simpa using h
end
set_option maxHeartbeats 4000000 in
theorem imagefrom_at (w : World) (v : Value) (B : List Nat) (hs : Src w v B) (hl : B.length ≤ 9223372036854775807) : Calls Try.prog 4 #[v] w fun e w' => e = .returned (.bool true) ∧ Kept (fun _ => False) w w' := by
  have HS := hide hs
  obtain ⟨bo, c, hve, -, -, -, -⟩ := hs
  have HVE := hide hve
  obtain ⟨n, hn⟩ : ∃ n, B.length = n := ⟨_, rfl⟩
  rw [hn] at hve hl
  have HN := hide hn
  by_cases hbig : 8000 < n
  · subst hve
    have hI : (8000 : Int) < n := by omega
    clear HVE HS hn
    go_enter Try.func4, Try.ntmps4
    go_wp2_with (go_at_call 7; refine (first_at _).mono ?_; rintro e w1 ⟨rfl, hk1⟩)
    go_ret
    exact ⟨rfl, hk1⟩
  · have hI : ¬ (8000 : Int) < n := by omega
    by_cases hm : n % 64 = 0
    · obtain ⟨m, hm2⟩ : ∃ m, n = 64 * m := ⟨n / 64, by omega⟩
      by_cases hin : 1 ≤ m ∧ m ≤ 64
      · have e0 : ¬ ((n : Int) = 0) := by omega
        have e1 : ¬ (4096 < (n : Int)) := by omega
        have e2 : ((n : Int) == 0 || decide (4096 < (n : Int))) = false := by simp; omega
        have h2 : (n : Int) % 64 = 0 := by omega
        have h3 : (n : Int).tmod 64 = 0 := by rw [Int.tmod_eq_emod_of_nonneg (by omega)]; exact h2
        have HF := hide (fun (w' : World) (hk : Kept (fun _ => False) w w') => from_ok w' v B (HS.out.kept hk) m (by rw [HN.out]; exact hm2) hin)
        have Hve := hide hve
        clear hm hm2 hin hn HVE
        subst hve
        obtain ⟨v, hv⟩ : ∃ v, v = Value.slice bo n c := ⟨_, rfl⟩
        have HV' := hide hv
        clear hv
        go_enter Try.func4, Try.ntmps4
        go_wp2_with (first
          | (go_at_call 7; refine (first_at _).mono ?_; rintro e w1 ⟨rfl, hk1⟩; have K1 := hide hk1; clear hk1)
          | (go_at_call 22; refine (HF.out _ K1.out).mono ?_; rintro e w2 ⟨d, rfl, hd, hk2⟩; obtain ⟨pd, rfl, -⟩ := hd.ptr; have HD := hide hd; have K2 := hide (K1.out.trans hk2 (fun _ _ h => h)); clear hd hk2))
        have HV : Hid (Src w2 v B) := hide (by rw [HV'.out]; exact HS.out.kept K2.out)
        rw [← HV'.out]
        refine hold_frame (p := fun fr => Code.wp Try.prog _ _ fr _) ?_
        intro fr hfr
        have e0 : fr.eval (.tmp 0) = v := by rw [hfr.out]; rfl
        have e3 : fr.eval (.tmp 3) = .pointer pd := by rw [hfr.out]; rfl
        have e4 : fr.eval (.tmp 4) = .int .i64 0 := by rw [hfr.out]; rfl
        have hts : fr.tmps.size = 45 := by rw [hfr.out]; rfl
        refine region_S0 99 Try.mixed ?_
        intro w0 hkw hheap
        have hv0 := HV.out.kept hkw
        have hd0 := HD.out.kept hkw
        have hS0 : Kept (fun _ => False) w0 w0 := Kept.refl (fun _ => False) w0
        refine ⟨Kept (fun _ => False) w0, ?_⟩
        refine tkS 0 35 (v := .int .i64 0) hS0 rfl rfl (by kernel_rfl) (by kernel_rfl) (by kernel_rfl) (by kernel_rfl) (wanted_none rfl) (fun _ _ _ h => h) (fun U hU => r_move (by simp [eval_put_ne, eval_put_eq, size_put, hts, e4])) ?_
        refine tkS 1 36 (v := .bool true) hS0 rfl rfl (by kernel_rfl) (by kernel_rfl) (by kernel_rfl) (by kernel_rfl) (wanted_none rfl) (fun _ _ _ h => h) (fun U hU => r_e25 (p := 0) (q := 0) (r := true) (by simp [eval_put_ne, eval_put_eq, size_put, hts]) rfl (by decide)) ?_
        refine tkS 2 37 (v := .bool true) hS0 rfl rfl (by kernel_rfl) (by kernel_rfl) (by kernel_rfl) (by kernel_rfl) (wanted_none rfl) (fun _ _ _ h => h) (fun U hU => r_move (by simp [eval_put_ne, eval_put_eq, size_put, hts])) ?_
        refine tkS 3 38 (v := .pointer pd) hS0 rfl rfl (by kernel_rfl) (by kernel_rfl) (by kernel_rfl) (by kernel_rfl) (wanted_some (j := 2) (d := 37) (bb := true) rfl rfl rfl (by simp [eval_put_ne, eval_put_eq, size_put, hts]) (by simp [size_put, hts])) (fun _ _ _ h => h) (fun U hU => r_move (by simp [eval_put_ne, eval_put_eq, size_put, hts, e3])) ?_
        refine tkS 6 41 (v := v) hS0 rfl rfl (by kernel_rfl) (by kernel_rfl) (by kernel_rfl) (by kernel_rfl) (wanted_some (j := 2) (d := 37) (bb := true) rfl rfl rfl (by simp [eval_put_ne, eval_put_eq, size_put, hts]) (by simp [size_put, hts])) (fun _ _ _ h => h) (fun U hU => r_move (by simp [eval_put_ne, eval_put_eq, size_put, hts, e0])) ?_
        refine tkS 7 42 (v := .string (strN B)) hS0 rfl rfl (by kernel_rfl) (by kernel_rfl) (by kernel_rfl) (by kernel_rfl) (wanted_some (j := 2) (d := 37) (bb := true) rfl rfl rfl (by simp [eval_put_ne, eval_put_eq, size_put, hts]) (by simp [size_put, hts])) (fun _ _ _ h => h) (fun U hU => r_strS (by simp [eval_put_ne, eval_put_eq, size_put, hts]) (hv0.kept hU)) ?_
        refine oneCS 4 39 (by kernel_rfl) rfl rfl (wanted_some (j := 2) (d := 37) (bb := true) rfl rfl rfl (by simp [eval_put_ne, eval_put_eq, size_put, hts]) (by simp [size_put, hts])) (r_call1 Try.func12 (by kernel_rfl) rfl rfl (by simp [eval_put_ne, eval_put_eq, size_put, hts])) (bytes_at w0 _ m B hd0) ?_
        rintro e v1 ⟨sb, rfl, ho, k1⟩
        refine ⟨_, rfl, k1, ?_⟩
        refine raiseM (S' := Kept (fun _ => False) v1) (fun U hU => k1.trans hU (fun _ _ h => h)) ?_
        have hs1 : (Kept (fun _ => False) v1) _ := Kept.refl _ _
        refine tkS 5 40 (v := .string (strN B)) hs1 rfl rfl (by kernel_rfl) (by kernel_rfl) (by kernel_rfl) (by kernel_rfl) (wanted_some (j := 2) (d := 37) (bb := true) rfl rfl rfl (by simp [eval_put_ne, eval_put_eq, size_put, hts]) (by simp [size_put, hts])) (fun _ _ _ h => h) (fun U hU => r_strS (by simp [eval_put_ne, eval_put_eq, size_put, hts]) (ho.src.kept hU)) ?_
        refine tkS 8 43 (v := .bool true) hs1 rfl rfl (by kernel_rfl) (by kernel_rfl) (by kernel_rfl) (by kernel_rfl) (wanted_some (j := 2) (d := 37) (bb := true) rfl rfl rfl (by simp [eval_put_ne, eval_put_eq, size_put, hts]) (by simp [size_put, hts])) (fun _ _ _ h => h) (fun U hU => r_eqSS (A := B) (by simp [eval_put_ne, eval_put_eq, size_put, hts]) (by simp [eval_put_ne, eval_put_eq, size_put, hts])) ?_
        refine tkS 9 44 (v := .bool true) hs1 rfl rfl (by kernel_rfl) (by kernel_rfl) (by kernel_rfl) (by kernel_rfl) (wanted_none rfl) (fun _ _ _ h => h) (fun U hU => r_pick (by simp [eval_put_ne, eval_put_eq, size_put, hts]) (by simp [eval_put_ne, eval_put_eq, size_put, hts])) ?_
        refine tkS 10 2 (v := .bool true) hs1 rfl rfl (by kernel_rfl) (by kernel_rfl) (by kernel_rfl) (by kernel_rfl) (wanted_none rfl) (fun _ _ _ h => h) (fun U hU => r_assign (by simp [eval_put_ne, eval_put_eq, size_put, hts])) ?_
        refine doneS (by kernel_rfl) ?_
        rw [hfr.out]
        clear hfr e0 e3 e4 hts
        simp only [put_lit, put_none, List.set_cons_succ, List.set_cons_zero]
        have HKw := hide (hkw.trans k1 (fun _ _ h => h))
        go_wp2
        go_ret
        exact ⟨rfl, K2.out.trans HKw.out (fun _ _ h => h)⟩
      · have HF := hide (fun (w' : World) (hk : Kept (fun _ => False) w w') => from_no w' v B (HS.out.kept hk) (by rw [HN.out]; exact hl) m (by rw [HN.out]; exact hm2) hin)
        have h2 : (n : Int) % 64 = 0 := by omega
        have h3 : (n : Int).tmod 64 = 0 := by rw [Int.tmod_eq_emod_of_nonneg (by omega)]; exact h2
        by_cases hz : n = 0
        · subst hz
          subst hve
          clear hm hm2 hin hn HVE h2 h3 hbig hI
          go_enter Try.func4, Try.ntmps4
          go_wp2_with (first
            | (go_at_call 7; refine (first_at _).mono ?_; rintro e w1 ⟨rfl, hk1⟩; have K1 := hide hk1; clear hk1)
            | (go_at_call 22; refine (HF.out _ K1.out).mono ?_; rintro e w2 ⟨rfl, rfl⟩))
          go_ret
          exact ⟨rfl, K1.out⟩
        · have e0 : ¬ ((n : Int) = 0) := by omega
          have e1 : 4096 < (n : Int) := by omega
          subst hve
          clear hm hm2 hin hn HVE
          go_enter Try.func4, Try.ntmps4
          go_wp2_with (first
            | (go_at_call 7; refine (first_at _).mono ?_; rintro e w1 ⟨rfl, hk1⟩; have K1 := hide hk1; clear hk1)
            | (go_at_call 22; refine (HF.out _ K1.out).mono ?_; rintro e w2 ⟨rfl, rfl⟩))
          go_ret
          exact ⟨rfl, K1.out⟩
    · have HF := hide (fun (w' : World) (hk : Kept (fun _ => False) w w') => from_bad w' v B (HS.out.kept hk) (by rw [HN.out]; exact hl) (by rw [HN.out]; exact hm))
      have h2 : ¬ ((n : Int) % 64 = 0) := by omega
      have h3 : ¬ ((n : Int).tmod 64 = 0) := by rw [Int.tmod_eq_emod_of_nonneg (by omega)]; exact h2
      have e0 : ¬ ((n : Int) = 0) := by omega
      subst hve
      clear hm hn HVE
      go_enter Try.func4, Try.ntmps4
      go_wp2_with (first
        | (go_at_call 7; refine (first_at _).mono ?_; rintro e w1 ⟨rfl, hk1⟩; have K1 := hide hk1; clear hk1)
        | (go_at_call 22; refine (HF.out _ K1.out).mono ?_; rintro e w2 ⟨rfl, rfl⟩))
      go_ret
      exact ⟨rfl, K1.out⟩
end Go.Proofs.Ytlpjhgcafkdhdaa
