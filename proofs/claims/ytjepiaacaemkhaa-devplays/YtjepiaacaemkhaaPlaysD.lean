/-
  DevPlays where the size is refused, or great.
-/
import Derived.Test.YtjepiaacaemkhaaPlaysC
namespace Go.Proofs.Ytjepiaacaemkhaa
open Go.RowKit Go.Shelf
set_option linter.unusedSimpArgs false
set_option linter.unusedVariables false

set_option maxRecDepth 100000 in
set_option maxHeartbeats 4000000 in
theorem plays_bad (w : World) (n : Int) (ao : Option Addr) (len cap : Nat) (h : n < 1 ∨ 4096 < n) :
    Calls Try.prog 3 #[.int .i64 n, .slice ao len cap] w fun e w' => e = .returned (.bool true) ∧ Kept (fun _ => False) w w' := by
  have HN := hide (fun W => new_bad W n h)
  have h1 : n < 1 ∨ (¬ n < 1 ∧ 4096 < n) := by omega
  clear h
  rcases h1 with h1 | ⟨h1, h2⟩
  all_goals
    go_enter Try.func3, Try.ntmps3
    go_wp2_with (first
      | (go_at_call 6; refine (first_any w).mono ?_; rintro e w1 ⟨rfl, hk1⟩)
      | (go_at_call 7; refine (HN.out _).mono ?_; rintro e w2 ⟨rfl, rfl⟩)
      | (go_at_call 8; refine (read_nil _ _ _).mono ?_; rintro e w3 ⟨rfl, rfl⟩)
      | (go_at_call 9; refine (limit_nil _ _).mono ?_; rintro e w4 ⟨rfl, rfl⟩)
      | (go_at_call 10; refine (crash_nilD _).mono ?_; rintro e w5 ⟨rfl, hk5⟩)
      | (go_at_call 11; refine (write_nil _ _).mono ?_; rintro e w6 ⟨rfl, hk6⟩)
      | (go_at_call 12; refine (flush_nil _).mono ?_; rintro e w7 ⟨rfl, hk7⟩)
      | (go_at_call 13; refine (turn_nil _ _ _).mono ?_; rintro e w8 ⟨rfl, rfl⟩)
      | (go_at_call 14; refine (size_nil _).mono ?_; rintro e w9 ⟨rfl, rfl⟩)
      | (go_at_call 15; refine (waiting_nil _).mono ?_; rintro e w10 ⟨rfl, rfl⟩)
      | (go_at_call 16; refine (calls_nil _).mono ?_; rintro e w11 ⟨rfl, rfl⟩)
      | (go_at_call 17; refine (image_nil _).mono ?_; rintro e w12 ⟨rfl, rfl⟩)
      | (go_at_call 18; refine (off_nil _).mono ?_; rintro e w13 ⟨rfl, rfl⟩))
    go_ret
    exact ⟨rfl, ((hk1.trans hk5 (fun _ _ h => h)).trans hk6 (fun _ _ h => h)).trans hk7 (fun _ _ h => h)⟩

set_option maxRecDepth 100000 in
set_option maxHeartbeats 4000000 in
theorem plays_great (w : World) (n : Nat) (ao : Option Addr) (len cap : Nat) (h1 : 60 < n) (h2 : n ≤ 4096) :
    Calls Try.prog 3 #[.int .i64 n, .slice ao len cap] w fun e w' => e = .returned (.bool true) ∧ Kept (fun _ => False) w w' := by
  go_enter Try.func3, Try.ntmps3
  go_wp2_with (first
    | (go_at_call 6; refine (first_any w).mono ?_; rintro e w1 ⟨rfl, hk1⟩)
    | (go_at_call 7; refine (new_at _ n (by omega) h2).mono ?_; rintro e w2 ⟨rfl, hk2, hd2⟩))
  go_ret
  exact ⟨rfl, hk1.trans hk2 (fun _ _ h => h)⟩

end Go.Proofs.Ytjepiaacaemkhaa
