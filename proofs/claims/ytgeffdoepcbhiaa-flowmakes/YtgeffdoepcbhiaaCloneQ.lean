/-
  slices.Clone, for elements of one type.
-/
import Derived.Test.YtgeffdoepcbhiaaFTypes
namespace Go.Proofs.Ytgeffdoepcbhiaa
open Go.RowKit Go.Shelf
set_option linter.unusedSimpArgs false
set_option linter.unusedVariables false
attribute [local go_sem] Oper.semAt_some

set_option maxRecDepth 100000 in
set_option maxHeartbeats 1000000 in
theorem clone_atQ (w : World) (v : Value) (vs : List Value) (hv : SrcV w v vs) (h1 : ∀ u ∈ vs, u.oneCell' = true) (hl : vs.length ≤ 1000000) :
    Calls Try.prog 58 #[v] w fun e w' => ∃ v', e = .returned v' ∧ w'.ownsRow 0 27 1 v' vs.length vs ∧ Kept (fun _ => False) w w' ∧ (∀ k, v'.ownBlock = some k → w.heap.size ≤ k) := by
  obtain ⟨i0, hi0, hz0, hs0, hb0⟩ := info_parts Try.info27
  have HV := hide hv
  obtain ⟨ao, cap, rfl, hcap, hsrc, hnil0⟩ := hv
  have Hi0 := hide hi0
  have Hz0 := hide hz0
  have Hs0 := hide hs0
  have Hb0 := hide hb0
  have H1 := hide h1
  clear hi0 hz0 hs0 hb0 h1 hsrc
  cases ao with
  | none =>
    obtain rfl : cap = 0 := hnil0 rfl
    obtain rfl : vs = [] := List.eq_nil_of_length_eq_zero (by omega)
    have hnil : (binOp .eql 68 (.slice none 0 0) (.slice none 0 0)).run Try.prog w = .ok (.bool true) w := by
      exact Lib.run_eql_slice_nil w 68 27 _ _ _ 0 0 Try.underlying68
    simp only [List.length_nil]
    clear hnil0 HV hcap
    go_enter Try.func58, Try.ntmps58
    go_wp2
    go_ret
    exact ⟨_, rfl, World.ownsRow_nil _ _ _ _, Kept.refl _ _, fun k h => by simp [Value.ownBlock] at h⟩
  | some a =>
    clear hnil0
    have hnil : (binOp .eql 68 (.slice (some a) vs.length cap) (.slice none 0 0)).run Try.prog w = .ok (.bool false) w := by
      exact Lib.run_eql_slice_nil w 68 27 _ _ _ 0 0 Try.underlying68
    go_enter Try.func58, Try.ntmps58
    go_wp2_with (with_reducible refine stop_bs 68 ?_)
    refine hide ?_
    refine wpList_run rfl (r_bs0 Try.underlying68 Hi0.out Hz0.out Hs0.out) ?_
    have hb1 := Blk.new w [] 27
    have hk1 : Kept (fun _ => False) w (w.alloc (.cells #[] 27)) := Kept.alloc _ _ _
    have hsz1 : (w.alloc (.cells #[] 27)).heap.size = w.heap.size + 1 := by simp
    rw [show (([] : List Value).toArray) = #[] from rfl] at hb1
    generalize w.alloc (.cells #[] 27) = w1 at hb1 hk1 hsz1
    have hown : w1.ownsRow 0 27 1 (.slice (some ⟨w.heap.size, 0, none⟩) 0 0) 0 [] := ownsRow_of (C := []) (by simpa using hb1) rfl (Nat.le_refl _) (by unfold maxLen; omega) rfl
    obtain ⟨v', w2, hr, h2, h3, h5⟩ := append_row (P := Try.prog) (ty := 68) Try.underlying68 Hi0.out Hz0.out Hs0.out Hb0.out rfl (by decide) hown (HV.out.kept hk1 (fun _ _ h => h)) H1.out (by omega)
    have HR := hide hr
    have HSz := hide hsz1
    clear hb1 hsz1 hown hr hnil
    simp only [put_lit, List.set_cons_succ, List.set_cons_zero]
    go_wp2_with (with_reducible refine stop_append 68 ?_)
    refine hide ?_
    refine wpList_run rfl (r_app rfl rfl HR.out) ?_
    simp only [put_lit, List.set_cons_succ, List.set_cons_zero]
    have H2 := hide h2
    have H3 := hide h3
    have H5 := hide h5
    clear h2 h3 h5
    go_wp2
    go_ret
    have hz := HSz.out
    refine ⟨_, rfl, by simpa using H2.out, hk1.trans H3.out (fun k hk h => by simp [Value.ownBlock] at h; omega), fun k h => ?_⟩
    have h : v'.ownBlock = some k := h
    rcases H5.out with h' | h'
    · rw [h'] at h; simp [Value.ownBlock] at h; omega
    · rw [h'] at h; cases h; omega
end Go.Proofs.Ytgeffdoepcbhiaa
