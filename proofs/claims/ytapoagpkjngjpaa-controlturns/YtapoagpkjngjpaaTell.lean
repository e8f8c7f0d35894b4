/-
  pack.isWidth, goesInto, missing, tell.
-/
import Derived.Test.YtapoagpkjngjpaaOwn
namespace Go.Proofs.Ytapoagpkjngjpaa
open Go.RowKit Go.Shelf
set_option linter.unusedSimpArgs false
set_option linter.unusedVariables false
set_option maxRecDepth 100000

theorem isWidth_at (w : World) (n : Int) : Calls Try.prog 68 #[.int .i64 n] w fun e w' => e = .returned (.bool (decide (1 ≤ n ∧ n ≤ 8))) ∧ w = w' := by
  by_cases h1 : 1 ≤ n
  · have h1' : n ≥ 1 := h1
    by_cases h8 : n ≤ 8
    · go_enter Try.func68, Try.ntmps68
      go_wp2
      go_ret
      exact ⟨by simp [h1, h8], rfl⟩
    · go_enter Try.func68, Try.ntmps68
      go_wp2
      go_ret
      exact ⟨by simp [h1, h8], rfl⟩
  · have h1' : ¬ n ≥ 1 := h1
    go_enter Try.func68, Try.ntmps68
    go_wp2
    go_ret
    exact ⟨by rw [decide_eq_false (by omega : ¬ 1 ≤ n)]; rfl, rfl⟩

theorem fits_no {n w : Int} (h : ¬ (1 ≤ w ∧ w ≤ 8)) : fitsN n w = false := by unfold fitsN; rw [decide_eq_false]; intro h2; exact h ⟨h2.1, h2.2.1⟩
theorem fits_neg {n w : Int} (h : n < 0) : fitsN n w = false := by unfold fitsN; rw [decide_eq_false]; omega
theorem fits_yes {n w : Nat} (h1 : 1 ≤ w) (h8 : w ≤ 8) : fitsN n w = decide (n / 2 ^ (8 * w) = 0) := by
  unfold fitsN
  rw [decide_eq_decide, pow_8, Int.toNat_natCast, Int.toNat_natCast]
  have hp : 0 < 256 ^ w := Nat.pow_pos (by decide)
  rw [Nat.div_eq_zero_iff]
  omega
theorem fits_of {n w : Int} (h : fitsN n w = true) : ∃ a b : Nat, n = a ∧ w = b ∧ 1 ≤ b ∧ b ≤ 8 ∧ a < 256 ^ b := by
  unfold fitsN at h
  simp only [decide_eq_true_eq] at h
  exact ⟨n.toNat, w.toNat, by omega, by omega, by omega, by omega, h.2.2.2⟩

set_option maxHeartbeats 1000000 in
theorem goesInto_at (w : World) (n m : Int) (hn : n ≤ 9223372036854775807) : Calls Try.prog 49 #[.int .i64 n, .int .i64 m] w fun e w' => e = .returned (.bool (fitsN n m)) ∧ w = w' := by
  have HW := hide (isWidth_at w m)
  by_cases h1 : 1 ≤ m ∧ m ≤ 8
  · rw [decide_eq_true h1] at HW
    by_cases h0 : n < 0
    · have h0' : ¬ n ≥ 0 := by omega
      go_enter Try.func49, Try.ntmps49
      go_wp2_with fail
      refine HW.out.mono ?_
      rintro e w1 ⟨rfl, rfl⟩
      go_wp2
      go_ret
      exact ⟨by rw [fits_neg h0]; rfl, rfl⟩
    · obtain ⟨a, rfl⟩ : ∃ a : Nat, n = a := ⟨n.toNat, by omega⟩
      obtain ⟨b, rfl⟩ : ∃ b : Nat, m = b := ⟨m.toNat, by omega⟩
      have HF := hide (fits_yes (n := a) (w := b) (by omega) (by omega))
      have h8 : IntKind.i64.wrap (8 * (b : Int)) = ((8 * b : Nat) : Int) := by rw [IntKind.wrap_i64]; omega
      have hb0 : ¬ ((8 * b : Nat) : Int) < 0 := by omega
      clear h0
      go_enter Try.func49, Try.ntmps49
      go_wp2_with fail
      refine HW.out.mono ?_
      rintro e w1 ⟨rfl, rfl⟩
      go_wp2
      go_ret
      have e : (a : Int) / 2 ^ (8 * b) = ((a / 2 ^ (8 * b) : Nat) : Int) := by push_cast; rfl
      refine ⟨?_, rfl⟩
      rw [HF.out]
      simp only [e]
      generalize a / 2 ^ (8 * b) = q
      show Ending.returned (.bool ((q : Int) == 0)) = _
      congr 2
      rw [Bool.eq_iff_iff]
      simp
  · rw [decide_eq_false h1] at HW
    go_enter Try.func49, Try.ntmps49
    go_wp2_with fail
    refine HW.out.mono ?_
    rintro e w1 ⟨rfl, rfl⟩
    go_wp2
    go_ret
    exact ⟨by rw [fits_no h1]; rfl, rfl⟩

theorem miss_low {l : Nat} {n : Int} (h : n < 1) : missN l n = 0 := by simp [missN, h]
theorem miss_nat {l n : Nat} (h : 1 ≤ n) : missN l n = if l % n = 0 then 0 else n - l % n := by
  have h1 : ¬ ((n : Int) < 1) := by omega
  simp only [missN, h1, if_false, Int.toNat_natCast]

set_option maxHeartbeats 1000000 in
theorem missing_at (w : World) (l : Nat) (n : Int) (hl : l ≤ 9223372036854775807) (hn : n ≤ 9223372036854775807) : Calls Try.prog 70 #[.int .i64 l, .int .i64 n] w fun e w' => e = .returned (.int .i64 (missN l n)) ∧ w = w' := by
  by_cases h1 : n < 1
  · have HM := hide (miss_low (l := l) h1)
    go_enter Try.func70, Try.ntmps70
    go_wp2
    go_ret
    exact ⟨by rw [HM.out]; rfl, rfl⟩
  · obtain ⟨m, rfl⟩ : ∃ m : Nat, n = m := ⟨n.toNat, by omega⟩
    have HM := hide (miss_nat (l := l) (n := m) (by omega))
    obtain ⟨r, hr⟩ : ∃ r, l % m = r := ⟨_, rfl⟩
    have hrl : r < m := by rw [← hr]; exact Nat.mod_lt _ (by omega)
    rw [hr] at HM
    have k2 : ((l : Int)) % (m : Int) = (r : Int) := by rw [← hr]; push_cast; rfl
    have k3 : ((l : Int)).tmod (m : Int) = (r : Int) := by rw [Int.tmod_eq_emod_of_nonneg (by omega)]; exact k2
    have k4 : IntKind.i64.wrap ((m : Int) - (r : Int)) = ((m - r : Nat) : Int) := by rw [IntKind.wrap_i64]; omega
    have k5 : IntKind.i64.wrap (r : Int) = (r : Int) := by rw [IntKind.wrap_i64]; omega
    have k6 : ((m : Int) == 0) = false := by simp; omega
    have k7 : ¬ (m : Int) = 0 := by omega
    clear hr
    by_cases h0 : r = 0
    · subst h0
      go_enter Try.func70, Try.ntmps70
      go_wp2
      go_ret
      exact ⟨by rw [HM.out]; rfl, rfl⟩
    · have h0' : ¬ ((r : Int) = 0) := by omega
      go_enter Try.func70, Try.ntmps70
      go_wp2
      go_ret
      exact ⟨by rw [HM.out, if_neg h0]; rfl, rfl⟩

section
variable {P : Program} {ops : Array Oper} {Q : Exit → Act → World → Prop} {a : Act} {w : World} {rest : List Oper} {dst : Option Tmp} {ty : TypeId} {pos : String} {aft : Array Edge} {x y : Operand}
theorem stop_append2 (t u : TypeId) (h : Hid (wpList P ops Q (⟨dst, .call { callee := .builtin .append, args := #[x, y], argTypes := #[t, u] }, ty, pos, aft, none⟩ :: rest) a w)) : wpList P ops Q (⟨dst, .call { callee := .builtin .append, args := #[x, y], argTypes := #[t, u] }, ty, pos, aft, none⟩ :: rest) a w := h.out
end
theorem r_slice3 {ρ : Operand → Value} {w : World} {dst : Option Tmp} {ty : TypeId} {pos : String} {aft : Array Edge} {gd : Option (Nat × Bool)} {x y z : Operand} {base : Nat} {v : Value} {A : List Nat} (hx : ρ x = v) (ho : Own w base v A) (hy : ρ y = .int .i64 A.length) (hz : ρ z = .int .i64 A.length) :
    ∃ v', (execOp ρ ⟨dst, .slice 24 x none (some y) (some z), ty, pos, aft, gd⟩).run Try.prog w = .ok (.value v') w ∧ Src w v' A := by
  obtain ⟨i5, hi5, hz5, hs5, hb5⟩ := info_parts Try.info5
  have hs := ho.src
  rcases ho.1.2 with ⟨rfl, h0⟩ | ⟨g, cap, cur, rfl, hb, hg, hnc, hcm, hcs, htake⟩
  · obtain rfl : A = [] := List.eq_nil_of_length_eq_zero h0
    refine ⟨.slice none 0 0, ?_, Src.nil w⟩
    simp at hy hz
    simp [execOp, Instr.sliceAt, run_underlying Try.underlying24, Instr.slice, hx, hy, hz, Instr.sliceBounds, Instr.sliceBound, asIntOf, sizeOf, typeInfo, hi5]
  · refine ⟨.slice (some ⟨g, 0, none⟩) A.length A.length, ?_, ?_⟩
    · have h2 : (0 : Int) ≤ (A.length : Int) ∧ (A.length : Int) ≤ (cap : Int) := by omega
      simp [execOp, Instr.sliceAt, run_underlying Try.underlying24, Instr.slice, hx, hy, hz, Instr.sliceBounds, Instr.sliceBound, asIntOf, sizeOf, typeInfo, hi5, hnc, addr_add]
    · obtain ⟨bo, cap', e, _, h2, h3, _⟩ := hs
      cases e
      exact ⟨_, _, rfl, Nat.le_refl _, h2, h3, fun h => by cases h⟩
theorem aw_slice3 {ops : Array Oper} {Q : Exit → Act → World → Prop} {a : Act} {rest : List Oper} {w : World} {dst : Option Tmp} {ty : TypeId} {pos : String} {aft : Array Edge} {x y z : Operand} {base : Nat} {v : Value} {A : List Nat} (hx : a.eval x = v) (ho : Own w base v A) (hy : a.eval y = .int .i64 A.length) (hz : a.eval z = .int .i64 A.length)
    (h : ∀ v', Src w v' A → wpList Try.prog ops Q rest (a.put dst v') w) : wpList Try.prog ops Q (⟨dst, .slice 24 x none (some y) (some z), ty, pos, aft, none⟩ :: rest) a w := by
  obtain ⟨v', hr, hs⟩ := r_slice3 (dst := dst) (ty := ty) (pos := pos) (aft := aft) (gd := none) hx ho hy hz
  exact wpList_run rfl hr (h v' hs)

set_option maxHeartbeats 1000000 in
theorem tell_at (w : World) (v : Value) (B : List Nat) (hs : Src w v B) (k : Nat) (hl : B.length + k ≤ 100000000) :
    Calls Try.prog 45 #[v, .int .i64 k] w fun e w' => ∃ v', e = .returned v' ∧ Src w' v' (B ++ List.replicate k 0) ∧ Kept (fun _ => False) w w' := by
  have HS := hide hs
  clear hs
  go_enter Try.func45, Try.ntmps45
  go_wp2_with (with_reducible refine stop_append2 24 24 ?_)
  refine hide ?_
  obtain ⟨v1, w1, hr1, ho1, hk1, _⟩ := append_src (Own.nil w w.heap.size) HS.out (by simp; omega) (Nat.le_refl _) 24
  have hk1' : Kept (fun _ => False) w w1 := hk1.mono (fun i hi h => by simp [Value.ownBlock] at h)
  rw [List.nil_append] at ho1
  refine wpList_run rfl (r_append25 rfl rfl hr1) ?_
  have HO1 := hide ho1
  clear ho1 hr1 hk1
  go_wp2_with (with_reducible refine stop_append2 24 3 ?_)
  refine hide ?_
  obtain ⟨v2, w2, hr2, ho2, hk2, _⟩ := append_zero HO1.out k hl hk1'.size 24
  have hk2' : Kept (fun _ => False) w w2 := hk1'.trans hk2 (fun i hi h => by have := (HO1.out.1.lt i h).1; omega)
  refine wpList_run rfl (r_appendZ rfl rfl hr2) ?_
  have hv2 : ∃ bo cap, v2 = .slice bo (B ++ List.replicate k 0).length cap := by
    obtain ⟨bo, cap, e, _⟩ := ho2.src
    exact ⟨bo, cap, e⟩
  obtain ⟨bo, cap, rfl⟩ := hv2
  obtain ⟨C, hC⟩ : ∃ C, B ++ List.replicate k 0 = C := ⟨_, rfl⟩
  rw [hC] at ho2 ⊢
  have HC := hide hC
  have HO2 := hide ho2
  clear ho2 hr2 hk2 hC
  go_wp2_with (with_reducible refine stop_slice 24 ?_)
  refine hide ?_
  refine aw_slice3 rfl HO2.out rfl rfl ?_
  intro v3 hs3
  have HS3 := hide hs3
  clear hs3
  go_wp2
  go_ret
  exact ⟨v3, rfl, by rw [HC.out]; exact HS3.out, hk2'⟩

end Go.Proofs.Ytapoagpkjngjpaa
