/-
  crc.take, crc.Join, crc.Sum: the sums as numbers.
-/
import Derived.Test.YtapoagpkjngjpaaCTypes
namespace Go.Proofs.Ytapoagpkjngjpaa
open Go.RowKit Go.Shelf
set_option linter.unusedSimpArgs false
set_option linter.unusedVariables false
set_option maxRecDepth 100000

set_option maxHeartbeats 1000000 in
theorem take_at (w : World) (r x : Nat) (hr : r < 4294967296) (hx : x < 256) :
    Calls Try.prog 73 #[.int .u32 r, .int .u8 x] w fun e w' => e = .returned (.int .u32 (takeN r x)) ∧ w = w' := by
  obtain ⟨s, hs⟩ : ∃ s, s = r ^^^ x := ⟨_, rfl⟩
  have hslt : s < 4294967296 := by rw [hs]; exact Nat.xor_lt_two_pow (n := 32) hr (by omega)
  have HS := hide hs
  clear hs
  have hwx : IntKind.u32.wrap (x : Int) = (x : Int) := by rw [IntKind.wrap_u32']; omega
  have HT : Hid (takeN r x = stepsN 8 s) := hide (by rw [HS.out]; rfl)
  go_enter Try.func73, Try.ntmps73
  go_wp2_with (with_reducible refine stop_bin .xor ?_)
  refine hide ?_
  refine wpList_run rfl (r_xor32 (p := r) (q := x) hr (by omega) rfl rfl) ?_
  rw [← HS.out]
  go_wp2
  go_loopw [0, 10] (fun v i wr => ∃ k : Nat, k ≤ 8 ∧ v = .int .u32 (stepsN k s : Nat) ∧ i = .int .i64 k ∧ w = wr) (fun _ i _ => 8 - (intOf i).toNat)
  case atStart => exact ⟨0, by omega, rfl, rfl, rfl⟩
  case round =>
    obtain ⟨k, hk, rfl, rfl, rfl⟩ := hrel
    have hlt := stepsN_lt hslt k
    have HN : Hid (stepsN (k + 1) s = stepN (stepsN k s)) := hide rfl
    generalize hq : stepsN k s = q at *
    have HQ := hide hq
    clear hq
    by_cases h8 : k < 8
    · obtain ⟨d, hd⟩ : ∃ d, q / 2 = d := ⟨_, rfl⟩
      by_cases h1 : q % 2 = 1
      · skip
        have HX : Hid (stepN q = d ^^^ 3988292384) := hide (by unfold stepN polyN; rw [if_pos h1, hd])
        have HD := hide hd
        have hdl : d < 4294967296 := by omega
        clear hd
        go_wp2_with (with_reducible refine stop_bin .and ?_)
        refine hide ?_
        refine wpList_run rfl (r_and32 (p := q) (q := 1) hlt (by decide) rfl rfl) ?_
        rw [Nat.and_one_is_mod, h1]
        go_wp2_with (with_reducible refine stop_bin .shr ?_)
        refine hide ?_
        refine wpList_run rfl (r_shr32 (p := q) (j := 1) (by decide) rfl rfl) ?_
        rw [Nat.pow_one, HD.out]
        clear h1
        go_wp2_with (with_reducible refine stop_bin .xor ?_)
        refine hide ?_
        refine wpList_run rfl (r_xor32 (p := d) (q := 3988292384) hdl (by decide) rfl rfl) ?_
        rw [← HX.out, ← HN.out]
        go_wp2
        go_roundw
        case rel => exact ⟨k + 1, by omega, rfl, by go_num, trivial⟩
        case measure => simp [intOf]; omega
      · skip
        have h0 : q % 2 = 0 := by omega
        have HX : Hid (stepN q = d) := hide (by unfold stepN; rw [if_neg h1, hd])
        have HD := hide hd
        have hdl : d < 4294967296 := by omega
        clear hd
        go_wp2_with (with_reducible refine stop_bin .and ?_)
        refine hide ?_
        refine wpList_run rfl (r_and32 (p := q) (q := 1) hlt (by decide) rfl rfl) ?_
        rw [Nat.and_one_is_mod, h0]
        go_wp2_with (with_reducible refine stop_bin .shr ?_)
        refine hide ?_
        refine wpList_run rfl (r_shr32 (p := q) (j := 1) (by decide) rfl rfl) ?_
        rw [Nat.pow_one, HD.out]
        clear h1 h0
        rw [← HX.out, ← HN.out]
        go_wp2
        go_roundw
        case rel => exact ⟨k + 1, by omega, rfl, by go_num, trivial⟩
        case measure => simp [intOf]; omega
    · obtain rfl : k = 8 := by omega
      go_wp2
      go_ret
      exact ⟨by rw [HT.out, HQ.out]; rfl, rfl⟩

set_option maxHeartbeats 1000000 in
theorem join_at (w : World) (was : Nat) (hw : was < 4294967296) (v : Value) (B : List Nat) (hs : Src w v B) (hl : B.length ≤ 9223372036854775807) :
    Calls Try.prog 72 #[.int .u32 was, v] w fun e w' => e = .returned (.int .u32 (joinN was B)) ∧ w = w' := by
  obtain ⟨bo, cap, rfl, hcap, hB, hsrc, hnil⟩ := hs
  clear hnil
  have HB := hide hB
  have HSrc := hide hsrc
  have HJ : Hid (joinN was B = 4294967295 - restN (4294967295 - was) B) := hide rfl
  clear hB hsrc
  go_enter Try.func72, Try.ntmps72
  go_wp2_with (with_reducible refine stop_un .xor ?_)
  refine hide ?_
  refine wpList_run rfl (r_not32 (p := was) hw rfl) ?_
  generalize hq : 4294967295 - was = q at *
  have hq0 : q < 4294967296 := by omega
  clear hq
  go_wp2
  go_loopw [5, 12] (fun v i wr => ∃ k : Nat, k ≤ B.length ∧ v = .int .u32 (restN q (B.take k) : Nat) ∧ i = .int .i64 k ∧ w = wr) (fun _ i _ => B.length - (intOf i).toNat)
  case atStart => exact ⟨0, by omega, rfl, rfl, rfl⟩
  case round =>
    obtain ⟨k, hk, rfl, rfl, rfl⟩ := hrel
    by_cases hlt : k < B.length
    · obtain ⟨sb, so, rfl, hc⟩ := HSrc.out (by omega)
      have c0 := hc k _ (BV_get B k hlt)
      have hx := HB.out _ (List.getElem_mem hlt)
      have hr0 : restN q (B.take k) < 4294967296 := restN_lt hq0 (fun x hx => HB.out x (List.mem_of_mem_take hx))
      have HT : Hid (restN q (B.take (k + 1)) = takeN (restN q (B.take k)) B[k]) := hide (by
        rw [← List.take_append_getElem hlt, restN_append]; rfl)
      clear hc
      generalize restN q (B.take k) = r at *
      generalize B[k] = x at *
      go_wp2_with (go_at_call 73; refine (take_at w r x hr0 hx).mono ?_; rintro e w1 ⟨rfl, rfl⟩; rw [← HT.out])
      go_roundw
      case rel => exact ⟨k + 1, by omega, rfl, by go_num, trivial⟩
      case measure => simp [intOf]; omega
    · obtain rfl : k = B.length := by omega
      rw [List.take_length]
      have hr0 : restN q B < 4294967296 := restN_lt hq0 HB.out
      generalize restN q B = r at *
      go_wp2_with (with_reducible refine stop_un .xor ?_)
      refine hide ?_
      refine wpList_run rfl (r_not32 (p := r) hr0 rfl) ?_
      rw [← HJ.out]
      go_wp2
      go_ret
      exact ⟨rfl, rfl⟩

theorem sum_at (w : World) (v : Value) (B : List Nat) (hs : Src w v B) (hl : B.length ≤ 9223372036854775807) :
    Calls Try.prog 64 #[v] w fun e w' => e = .returned (.int .u32 (joinN 0 B)) ∧ w = w' := by
  have HJ := hide (join_at w 0 (by decide) v B hs hl)
  clear hs
  go_enter Try.func64, Try.ntmps64
  go_wp2_with (go_at_call 72; refine HJ.out.mono ?_; rintro e w1 ⟨rfl, rfl⟩)
  go_ret
  exact ⟨rfl, rfl⟩

end Go.Proofs.Ytapoagpkjngjpaa
