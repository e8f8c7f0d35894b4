/-
  What FlowParts' functions do; Same.
-/
import Derived.Test.YtgeffdoepcbhiaaLawFirst
import Derived.Test.YtgeffdoepcbhiaaRunsI
import Derived.Test.YtgeffdoepcbhiaaFoldL
namespace Go.Proofs.Ytgeffdoepcbhiaa
open Go.RowKit Go.Shelf
set_option linter.unusedSimpArgs false
set_option linter.unusedVariables false
attribute [local go_sem] Oper.semAt_some

/-- Numbers of int. -/
abbrev I64 := { x : Int // -9223372036854775808 ≤ x ∧ x ≤ 9223372036854775807 }
abbrev DI (x : I64) : Value := .int .i64 x.1
theorem DI_one (x : I64) : (DI x).cells = #[DI x] ∧ (DI x).oneCell' = true := ⟨rfl, rfl⟩
theorem DI_inj {a b : I64} (h : DI a = DI b) : a = b := by
  apply Subtype.ext
  simpa [DI] using h

theorem and1 (x : Int) : bits .and .i64 x 1 = 0 ∨ bits .and .i64 x 1 = 1 := by
  have h1 : (BitVec.ofInt IntKind.i64.bits 1).toNat = 1 := by decide
  unfold bits
  simp only [BitVec.toNat_and, h1, Nat.and_one_is_mod]
  rcases Nat.mod_two_eq_zero_or_one (BitVec.ofInt IntKind.i64.bits x).toNat with h | h <;> rw [h]
  · exact .inl (by decide)
  · exact .inr (by decide)
theorem DI_ones (xs : List I64) : ∀ u ∈ xs.map DI, u.oneCell' = true := fun u hu => by
  obtain ⟨x, _, rfl⟩ := List.mem_map.1 hu
  exact (DI_one x).2
def pO (x : I64) : Bool := bits .and .i64 x.1 1 == 1
def pE (x : I64) : Bool := bits .and .i64 x.1 1 == 0
theorem pO_pE (x : I64) : pE x = !pO x := by
  unfold pE pO
  rcases and1 x.1 with h | h <;> rw [h] <;> rfl
theorem parts_len (xs : List I64) : (xs.filter pO).length + (xs.filter pE).length = xs.length := by
  induction xs with
  | nil => rfl
  | cons x xs ih =>
    cases h : pO x
    · rw [List.filter_cons_of_neg (by simp [h]), List.filter_cons_of_pos (by simp [pO_pE, h])]
      simp only [List.length_cons]; omega
    · rw [List.filter_cons_of_pos (by simp [h]), List.filter_cons_of_neg (by simp [pO_pE, h])]
      simp only [List.length_cons]; omega
set_option maxHeartbeats 400000 in
theorem f7 (x : I64) (w : World) : Calls Try.prog 7 #[DI x] w fun e w' => e = .returned (.bool (pO x)) ∧ w = w' := by
  obtain ⟨x, h1, h2⟩ := x
  show Calls Try.prog 7 #[.int .i64 x] w _
  go_enter Try.func7, Try.ntmps7
  go_wp2
  go_ret
  exact ⟨rfl, rfl⟩
set_option maxHeartbeats 400000 in
theorem f8 (x : I64) (w : World) : Calls Try.prog 8 #[DI x] w fun e w' => e = .returned (.bool (pE x)) ∧ w = w' := by
  obtain ⟨x, h1, h2⟩ := x
  show Calls Try.prog 8 #[.int .i64 x] w _
  go_enter Try.func8, Try.ntmps8
  go_wp2
  go_ret
  exact ⟨rfl, rfl⟩
theorem f7_ok (W : World) : FnOk Try.prog (.func (.func 7) #[] #[]) (EncD DI) Value.bool pO (fun _ => False) W :=
  FnOk.of (enters_of Try.func7 (by kernel_rfl) rfl) (by
    rintro W' S hk hS x v G ⟨rfl, _⟩
    refine (f7 x W').mono ?_
    rintro e w' ⟨rfl, rfl⟩
    exact ⟨rfl, Kept.refl _ _⟩)
theorem f8_ok (W : World) : FnOk Try.prog (.func (.func 8) #[] #[]) (EncD DI) Value.bool pE (fun _ => False) W :=
  FnOk.of (enters_of Try.func8 (by kernel_rfl) rfl) (by
    rintro W' S hk hS x v G ⟨rfl, _⟩
    refine (f8 x W').mono ?_
    rintro e w' ⟨rfl, rfl⟩
    exact ⟨rfl, Kept.refl _ _⟩)

/-- What the lists were joined to. -/
def KJ (pre : List (List I64)) (u : Value) (F : NSet) (W : World) : Prop := W.ownsRow 0 3 1 u pre.flatten.length (pre.flatten.map DI) ∧ F = fun k => u.ownBlock = some k
theorem KJ.stab {B : Nat} {C : NSet} (pre : List (List I64)) (u : Value) : Stab B C (KJ pre u) :=
  ⟨fun F W h k hk => by rw [h.2] at hk; exact ownsRow_lt h.1 k hk, fun F W W' S h hk h1 _ => ⟨ownsRow_kept h.1 hk (fun k h2 h3 => h1 k h3 (by rw [h.2]; exact h2)), h.2⟩⟩
set_option maxRecDepth 100000 in
set_option maxHeartbeats 1000000 in
theorem f14_ok (xss : List (List I64)) (hl : xss.flatten.length ≤ 1000000) (B : Nat) (F0 : NSet) : FoldFnL (EncRow 3 DI) xss B F0 KJ (.func (.func 14) #[] #[]) := by
  rintro pre c post u Fu G v W hxs ⟨ho, rfl⟩ hB hF ⟨hv, hGv⟩ hG
  obtain ⟨i3, hi3, hz3, hs3, hb3⟩ := info_parts Try.info3
  have hlen : pre.flatten.length + c.length ≤ 1000000 := by
    rw [hxs, List.flatten_append, List.flatten_cons, List.length_append, List.length_append] at hl
    omega
  obtain ⟨u', w', hr, h2, h3, h5⟩ := append_row (P := Try.prog) (ty := 22) Try.underlying22 hi3 hz3 hs3 hb3 rfl (by decide) ho (ownsRow_src hv) (DI_ones c) (by rw [List.length_map]; omega)
  have HR := hide hr
  have hfl : (pre ++ [c]).flatten = pre.flatten ++ c := by simp
  have Hfin : Hid (∃ u2 Fu', Ending.returned u' = .returned u2 ∧ KJ (pre ++ [c]) u2 Fu' w' ∧ Kept (fun k => u.ownBlock = some k ∨ G k) W w' ∧ ∀ k, Fu' k → u.ownBlock = some k ∨ G k ∨ W.heap.size ≤ k) := hide ⟨u', _, rfl, ⟨by rw [hfl]; simpa using h2, rfl⟩, h3.mono (fun _ _ h => .inl h), fun k h => by
    rcases h5 with h' | h'
    · rw [h'] at h; exact .inl h
    · rw [h'] at h; cases h; exact .inr (.inr (Nat.le_refl _))⟩
  refine .inl ⟨_, _, rfl, enters_of Try.func14 (by kernel_rfl) rfl, ?_⟩
  clear hi3 hz3 hs3 hb3 ho hv hG hGv hF hB hr h2 h3 h5 hfl hxs hl
  show Calls Try.prog 14 #[u, v] W _
  go_enter Try.func14, Try.ntmps14
  go_wp2_with (with_reducible refine stop_append 22 ?_)
  refine hide ?_
  refine wpList_run rfl (r_app rfl rfl HR.out) ?_
  simp only [put_lit, List.set_cons_succ, List.set_cons_zero]
  go_wp2
  go_ret
  exact Hfin.out

set_option maxRecDepth 100000 in
set_option maxHeartbeats 1000000 in
theorem same_at (W : World) (a b : Value) (xs : List I64) (ha : SrcV W a (xs.map DI)) (hb : SrcV W b (xs.map DI)) (hl : xs.length ≤ 1000000) : Calls Try.prog 15 #[a, b] W fun e W' => e = .returned (.bool true) ∧ Kept (fun _ => False) W W' := by
  obtain ⟨ao, ca, rfl, hca, hsa, _⟩ := ha
  obtain ⟨bo, cb, rfl, hcb, hsb, _⟩ := hb
  simp only [List.length_map] at hca hcb hsa hsb ⊢
  have HA := hide hsa
  have HB := hide hsb
  clear hsa hsb
  obtain ⟨n, hn⟩ : ∃ n, n = xs.length := ⟨_, rfl⟩
  rw [← hn] at hca hcb hl HA HB ⊢
  have Hn := hide hn
  clear hn
  go_enter Try.func15, Try.ntmps15
  go_wp2
  go_loopw [13] (fun i wr => ∃ k : Nat, i = .int .i64 k ∧ k ≤ n ∧ Hid (Kept (fun _ => False) W wr)) (fun i _ => n - (intOf i).toNat)
  case atStart => exact ⟨0, rfl, Nat.zero_le _, hide (Kept.refl _ _)⟩
  case round =>
    obtain ⟨k, rfl, hk, hKk⟩ := hrel
    by_cases hlt : k < n
    · obtain ⟨ga, oa, rfl, hca'⟩ := HA.out (by omega)
      obtain ⟨gb, ob, rfl, hcb'⟩ := HB.out (by omega)
      have hk2 : k < xs.length := by rw [← Hn.out]; exact hlt
      have c0 : wr.cell? ⟨ga, oa + k, none⟩ = some (.int .i64 xs[k].1) := (hKk.out.cells hca' (fun h => h)) k _ (by simp [hk2])
      have c1 : wr.cell? ⟨gb, ob + k, none⟩ = some (.int .i64 xs[k].1) := (hKk.out.cells hcb' (fun h => h)) k _ (by simp [hk2])
      obtain ⟨x, hx⟩ : ∃ x, x = xs[k].1 := ⟨_, rfl⟩
      rw [← hx] at c0 c1
      clear hx hca' hcb' hk2
      go_wp2
      go_quiet (fail)
      go_wp2
      go_roundw
      case rel => exact ⟨k + 1, by simp, by omega, hide (hKk.out.trans ⟨rfl, rfl, rfl, Nat.le_refl _, fun _ _ _ => rfl⟩ (fun _ _ h => h))⟩
      case measure => simp [intOf]; omega
    · obtain rfl : k = n := by omega
      go_wp2
      go_ret
      exact ⟨rfl, hKk.out⟩
end Go.Proofs.Ytgeffdoepcbhiaa
