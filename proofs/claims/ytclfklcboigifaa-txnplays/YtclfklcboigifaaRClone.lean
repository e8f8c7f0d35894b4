/-
  bytes.Clone.
-/
import Derived.Test.YtclfklcboigifaaIterB
namespace Go.Proofs.Ytclfklcboigifaa
open Go.RowKit Go.Shelf
set_option linter.unusedSimpArgs false
set_option linter.unusedVariables false
set_option maxRecDepth 100000

set_option maxRecDepth 100000 in
set_option maxHeartbeats 1000000 in
theorem bclone_at (w : World) (v : Value) (B : List Nat) (hs : Src w v B) (hl : B.length ≤ 90000000) : Calls Try.prog 31 #[v] w fun e w' => ∃ s : Sl, e = .returned (.slice s.a s.n s.c) ∧ Own w' 0 s.v B ∧ Kept (fun _ => False) w w' ∧ ∀ k, s.v.ownBlock = some k → w.heap.size ≤ k := by
  have hs' := hs
  obtain ⟨bo, c, rfl, h1, h2, h3, h4⟩ := hs
  have HS := hide hs'
  have H3 := hide h3
  clear hs' h3
  have q25 : ∀ (w : World) (a : Option Addr) (n c : Nat), (binOp .eql 40 (.slice a n c) (.slice none 0 0)).run Try.prog w = .ok (.bool a.isNone) w := fun w a n c => by simp only [binOp]; simp [Op.equal, Op.maxDepth, Lib.run_equalIn_slice_nil w 9999 40 5 a n c 0 0 Try.underlying40]
  cases bo with
  | none =>
    have hB0 : B.length = 0 := by
      rcases Nat.eq_zero_or_pos B.length with h | h
      · exact h
      · obtain ⟨_, _, e, _⟩ := H3.out h; cases e
    obtain rfl : B = [] := List.eq_nil_of_length_eq_zero hB0
    go_enter Try.func31, Try.ntmps31
    go_wp2
    go_ret
    exact ⟨⟨none, 0, 0⟩, rfl, Own.nil w 0, Kept.refl _ _, by simp [Value.ownBlock]⟩
  | some ad =>
    obtain ⟨i0, hi0, hz0, hs0, hb0⟩ := info_parts Try.info5
    go_enter Try.func31, Try.ntmps31
    go_wp2_with (with_reducible refine stop_bs 40 ?_)
    refine hide ?_
    refine wpList_run rfl (run_bs1 Try.underlying40 hi0 hz0 hs0 [] rfl (by simp) (by simp [Value.cells]) rfl) ?_
    have hb1 := Blk.new w [] 5
    have hk1 : Kept (fun _ => False) w (w.alloc (.cells ([] : List Value).toArray 5)) := Kept.alloc _ _ _
    have hz1 : (w.alloc (.cells ([] : List Value).toArray 5)).heap.size = w.heap.size + 1 := by simp
    generalize w.alloc (.cells ([] : List Value).toArray 5) = w1 at hb1 hk1 hz1
    have ho : Own w1 0 (.slice (some ⟨w.heap.size, 0, none⟩) 0 0) [] := ⟨ownsRow_of (xs := []) (C := []) hb1 rfl (Nat.le_refl _) (Nat.zero_le _) rfl, by simp⟩
    obtain ⟨v', w2, hr, ho2, hk2, hv2⟩ := append_src ho (HS.out.kept hk1) (by simp; omega) (Nat.zero_le _) 40
    have hk3 : Kept (fun _ => False) w w2 := hk1.trans hk2 (fun i hi h => by simp [Value.ownBlock] at h; omega)
    have hv3 : ∀ k, v'.ownBlock = some k → w.heap.size ≤ k := fun k hk => by
      rcases hv2 with h | h
      · rw [h] at hk; simp [Value.ownBlock] at hk; omega
      · rw [h] at hk; simp at hk; omega
    obtain ⟨bo, c', rfl⟩ : ∃ bo c', v' = .slice bo B.length c' := by
      obtain ⟨bo, c', e, _⟩ := ho2.src
      exact ⟨bo, c', by simpa using e⟩
    have HO := hide ho2
    have HK := hide hk3
    have HR := hide hr
    have HV3 := hide hv3
    clear ho hr ho2 hk2 hv2 hv3 hk3 hb1 hk1 hz1 q25
    simp only [put_lit, List.set_cons_succ, List.set_cons_zero]
    go_wp2_with (with_reducible refine stop_app2 40 40 ?_)
    refine hide ?_
    refine wpList_run rfl (r_app rfl rfl HR.out) ?_
    simp only [put_lit, List.set_cons_succ, List.set_cons_zero]
    go_wp2
    go_ret
    exact ⟨⟨bo, B.length, c'⟩, rfl, by simpa using HO.out, HK.out, HV3.out⟩
end Go.Proofs.Ytclfklcboigifaa
