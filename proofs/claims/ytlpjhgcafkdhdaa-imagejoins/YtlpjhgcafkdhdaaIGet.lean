/-
  Get.
-/
import Derived.Test.YtlpjhgcafkdhdaaICl
namespace Go.Proofs.Ytlpjhgcafkdhdaa
open Go.RowKit Go.Shelf
set_option linter.unusedSimpArgs false
set_option linter.unusedVariables false
set_option maxRecDepth 100000

theorem get_nil (w : World) (k : Int) : Calls Try.prog 9 #[.pointer none, .int .i64 k] w fun e w' => e = .returned (.tuple #[.slice none 0 0, .int .i64 1]) ∧ w = w' := by
  go_enter Try.func9, Try.ntmps9
  go_wp2
  go_ret2
  exact ⟨rfl, rfl⟩
theorem get_no (w : World) (d : Value) (n : Nat) (B : List Nat) (h : DkAt w d n B) (hn : 1 ≤ n) (k : Int) (hk : ¬ (0 ≤ k ∧ k < n)) : Calls Try.prog 9 #[d, .int .i64 k] w fun e w' => e = .returned (.tuple #[.slice none 0 0, .int .i64 41]) ∧ w = w' := by
  have HA := hide (has_at w d n B h k false (by simp; omega))
  obtain ⟨a, rfl, ha⟩ := h.ptr
  obtain ⟨b, rfl⟩ : ∃ b, a = some b := by
    cases a with
    | none => have := ha.1 rfl; omega
    | some b => exact ⟨b, rfl⟩
  clear h hn hk ha
  go_enter Try.func9, Try.ntmps9
  go_wp2_with (go_at_call 23; refine HA.out.mono ?_; rintro e w1 ⟨rfl, rfl⟩)
  go_ret2
  exact ⟨rfl, rfl⟩
set_option maxHeartbeats 1000000 in
theorem get_ok (w : World) (d : Value) (n : Nat) (B : List Nat) (h : DkAt w d n B) (k : Nat) (hk : k < n) : Calls Try.prog 9 #[d, .int .i64 k] w fun e w' => ∃ s : Sl, e = .returned (.tuple #[.slice s.a s.n s.c, .int .i64 0]) ∧ OwnN w.heap.size w' s (getB B k) ∧ Kept (fun _ => False) w w' := by
  have HA := hide (has_at w d n B h k true (by simp; omega))
  rcases h with ⟨rfl, rfl, rfl⟩ | ⟨h1, h2, h3, h4, b, g, cap, C, rfl, h6, h7, h8⟩
  · omega
  have c0 : w.cell? ⟨b, 0, none⟩ = some (.slice (some ⟨g, 0, none⟩) n cap) := h6.cell 0
  have hsrc := blk_src h7 h3 h4 hk
  have HC := hide (bclone_at w _ _ hsrc (by rw [getB_len h3 hk]; decide))
  have Hk := hide hk
  have hkI : (k : Int) < n := by omega
  clear h1 h2 h3 h4 h6 h7 h8 hsrc hk
  go_enter Try.func9, Try.ntmps9
  go_wp2_with (first
    | (go_at_call 23; refine HA.out.mono ?_; rintro e w1 ⟨rfl, rfl⟩)
    | (with_reducible refine stop_slice 62 ?_))
  refine hide ?_
  refine wpList_run rfl (run_slice_arr rfl) ?_
  simp only [put_lit, List.set_cons_succ, List.set_cons_zero]
  go_wp2_with fail
  rw [Nat.mul_comm k 64]
  refine HC.out.mono ?_
  rintro e w1 ⟨s, rfl, ho, hk1⟩
  have HO := hide ho
  have HK1 := hide hk1
  clear ho hk1
  go_wp2
  go_ret2
  exact ⟨s, rfl, HO.out, HK1.out⟩
end Go.Proofs.Ytlpjhgcafkdhdaa
