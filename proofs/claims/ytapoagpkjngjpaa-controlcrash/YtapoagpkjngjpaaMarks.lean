/-
  crc.Mark, crc.Good, the reference's Mark.
-/
import Derived.Test.YtapoagpkjngjpaaStr
namespace Go.Proofs.Ytapoagpkjngjpaa
open Go.RowKit Go.Shelf
set_option linter.unusedSimpArgs false
set_option linter.unusedVariables false
set_option maxRecDepth 100000

theorem r_add9c {ρ : Operand → Value} {w : World} {dst : Option Tmp} {ty : TypeId} {pos : String} {aft : Array Edge} {gd : Option (Nat × Bool)} {x y : Operand} {A B : List Nat} (hx : ρ x = .string (strN A)) (hy : ρ y = .string (strN B)) (hl : A.length + B.length ≤ 2000000) :
    (execOp ρ ⟨dst, .binOp .add 9 x y 9, ty, pos, aft, gd⟩).run Try.prog w = .ok (.value (.string (strN (A ++ B)))) w := by
  have hz : (strN A).size + (strN B).size ≤ 9223372036854775807 := by rw [strN_size, strN_size]; omega
  rw [← strN_append]
  go_simp

set_option maxHeartbeats 1000000 in
theorem refMark_few (w : World) (v : Value) (B : List Nat) (hs : Src w v B) (h4 : B.length < 4) :
    Calls Try.prog 41 #[v] w fun e w' => e = .returned (.string (strN (markN B))) ∧ Kept (fun _ => False) w w' := by
  have HS := hide hs
  have HM : Hid (markN B = B) := hide (by unfold markN; rw [if_pos h4])
  obtain ⟨bo, cap, rfl, hcap, hB, hsrc, hnil⟩ := hs
  clear hB hsrc hnil
  go_enter Try.func41, Try.ntmps41
  go_wp2_with (with_reducible refine stop_convert 24 9 ?_)
  refine hide ?_
  refine wpList_run rfl (r_strS (B := B) rfl HS.out) ?_
  go_wp2
  go_ret
  exact ⟨by rw [HM.out]; rfl, Kept.refl _ _⟩

set_option maxHeartbeats 2000000 in
theorem refMark_more (w : World) (v : Value) (B : List Nat) (n : Nat) (hs : Src w v B) (hn : B.length = n + 4) (hl : B.length ≤ 1000000) :
    Calls Try.prog 41 #[v] w fun e w' => e = .returned (.string (strN (markN B))) ∧ Kept (fun _ => False) w w' := by
  obtain ⟨bo, cap, rfl, hcap, hB, hsrc, hnil⟩ := hs
  obtain ⟨sb, so, rfl, hc⟩ := hsrc (by omega)
  obtain ⟨T, hT⟩ : ∃ T, B.take n = T := ⟨_, rfl⟩
  have hTl : T.length = n := by rw [← hT, List.length_take]; omega
  have HM0 : markN B = T ++ fourN (joinN 0 T) := by
    unfold markN
    rw [if_neg (by omega), show B.length - 4 = n by omega, hT]
  have HM : Hid (∀ U : World, Result.ok (Next.value (.string (strN (T ++ fourN (joinN 0 T))))) U = Result.ok (Next.value (.string (strN (markN B)))) U) := hide (fun U => by rw [HM0])
  have HT : Hid (Src w (.slice (some ⟨sb, so, none⟩) n cap) T) := hide ⟨_, _, by rw [hTl], by omega, fun x hx => hB x (by rw [← hT] at hx; exact List.mem_of_mem_take hx), fun _ => ⟨sb, so, rfl, by
    have := hc.part 0 n
    rw [List.drop_zero, ← BV_take, hT] at this
    simpa using this⟩, fun h => by cases h⟩
  rw [hn] at hcap hl ⊢
  have hw : IntKind.i64.wrap (((n + 4 : Nat) : Int) - 4) = (n : Int) := by rw [IntKind.wrap_i64]; omega
  clear hB hsrc hnil hc hT hn HM0
  go_enter Try.func41, Try.ntmps41
  go_wp2
  clear hw
  refine hold_frame (p := fun fr => Code.wp Try.prog _ _ fr _) ?_
  intro fr hfr
  have e0 : fr.eval (.tmp 0) = .slice (some ⟨sb, so, none⟩) (n + 4) cap := by rw [hfr.out]; rfl
  have e3 : fr.eval (.tmp 3) = .int .i64 n := by rw [hfr.out]; rfl
  have hts : fr.tmps.size = 22 := by rw [hfr.out]; rfl
  refine region_kept Try.mixed ?_
  intro w0 hkw hheap
  have hk0 := Kept.refl (fun _ => False) w0
  refine tkK 0 12 (v := .slice (some ⟨sb, so, none⟩) (n + 4) cap) hk0 rfl rfl (by kernel_rfl) (by kernel_rfl) (by kernel_rfl) (wanted_none rfl) (fun _ _ _ h => h) (fun U hU => r_move (by simp [eval_put_ne, eval_put_eq, size_put, hts, e0])) ?_
  refine tkK 1 13 (v := .int .i64 n) hk0 rfl rfl (by kernel_rfl) (by kernel_rfl) (by kernel_rfl) (wanted_none rfl) (fun _ _ _ h => h) (fun U hU => r_move (by simp [eval_put_ne, eval_put_eq, size_put, hts, e3])) ?_
  refine tkK 2 14 (v := .slice (some ⟨sb, so, none⟩) n cap) hk0 rfl rfl (by kernel_rfl) (by kernel_rfl) (by kernel_rfl) (wanted_none rfl) (fun _ _ _ h => h) (fun U hU => r_hi22 (len := n + 4) n (k := .i64) (by simp [eval_put_ne, eval_put_eq, size_put, hts]) (by simp [eval_put_ne, eval_put_eq, size_put, hts]) (by omega)) ?_
  refine tkK 3 15 (v := .string (strN T)) hk0 rfl rfl (by kernel_rfl) (by kernel_rfl) (by kernel_rfl) (wanted_none rfl) (fun _ _ _ h => h) (fun U hU => r_strS (v := .slice (some ⟨sb, so, none⟩) n cap) (by simp [eval_put_ne, eval_put_eq, size_put, hts]) (HT.out.kept (hkw.trans hU (fun _ _ h => h)))) ?_
  refine tkK 4 16 (v := .slice (some ⟨sb, so, none⟩) (n + 4) cap) hk0 rfl rfl (by kernel_rfl) (by kernel_rfl) (by kernel_rfl) (wanted_none rfl) (fun _ _ _ h => h) (fun U hU => r_move (by simp [eval_put_ne, eval_put_eq, size_put, hts, e0])) ?_
  refine tkK 5 17 (v := .int .i64 n) hk0 rfl rfl (by kernel_rfl) (by kernel_rfl) (by kernel_rfl) (wanted_none rfl) (fun _ _ _ h => h) (fun U hU => r_move (by simp [eval_put_ne, eval_put_eq, size_put, hts, e3])) ?_
  refine tkK 6 18 (v := .slice (some ⟨sb, so, none⟩) n cap) hk0 rfl rfl (by kernel_rfl) (by kernel_rfl) (by kernel_rfl) (wanted_none rfl) (fun _ _ _ h => h) (fun U hU => r_hi22 (len := n + 4) n (k := .i64) (by simp [eval_put_ne, eval_put_eq, size_put, hts]) (by simp [eval_put_ne, eval_put_eq, size_put, hts]) (by omega)) ?_
  refine oneC 7 19 (by kernel_rfl) rfl rfl (wanted_none rfl) (r_call2 Try.func61 (by kernel_rfl) rfl rfl rfl (by simp [eval_put_ne, eval_put_eq, size_put, hts])) (refJoin_at w0 0 (by decide) _ T (HT.out.kept hkw) (by omega)) ?_
  rintro e w1 ⟨rfl, rfl⟩
  refine ⟨_, rfl, hk0, ?_⟩
  refine oneC 8 20 (by kernel_rfl) rfl rfl (wanted_none rfl) (r_call1 Try.func60 (by kernel_rfl) rfl rfl (by simp [eval_put_ne, eval_put_eq, size_put, hts])) (four_at w0 (joinN 0 T) (joinN_lt _ _)) ?_
  rintro e w1 ⟨rfl, hk1⟩
  refine ⟨_, rfl, hk1, ?_⟩
  refine tkK 9 21 (v := .string (strN (markN B))) hk1 rfl rfl (by kernel_rfl) (by kernel_rfl) (by kernel_rfl) (wanted_none rfl) (fun _ _ _ h => h) (fun U hU => (r_add9c (by simp [eval_put_ne, eval_put_eq, size_put, hts]) (by simp [eval_put_ne, eval_put_eq, size_put, hts]) (by rw [hTl]; simp [fourN]; omega)).trans (HM.out U)) ?_
  refine tkK 10 2 (v := .string (strN (markN B))) hk1 rfl rfl (by kernel_rfl) (by kernel_rfl) (by kernel_rfl) (wanted_none rfl) (fun _ _ _ h => h) (fun U hU => r_assign (by simp [eval_put_ne, eval_put_eq, size_put, hts])) ?_
  refine wpAnyH_done (by kernel_rfl) ?_ _
  rw [hfr.out]
  clear hfr
  simp only [put_lit, List.set_cons_succ, List.set_cons_zero]
  have hkf := hkw.trans hk1 (fun _ _ h => h)
  go_wp2
  go_ret
  exact ⟨rfl, hkf⟩

theorem refMark_at (w : World) (v : Value) (B : List Nat) (hs : Src w v B) (hl : B.length ≤ 1000000) :
    Calls Try.prog 41 #[v] w fun e w' => e = .returned (.string (strN (markN B))) ∧ Kept (fun _ => False) w w' := by
  by_cases h : B.length < 4
  · exact refMark_few w v B hs h
  · exact refMark_more w v B (B.length - 4) hs (by omega) hl

end Go.Proofs.Ytapoagpkjngjpaa
