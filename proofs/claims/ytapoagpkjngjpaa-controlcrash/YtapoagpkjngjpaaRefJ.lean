/-
  The reference's Join.
-/
import Derived.Test.YtapoagpkjngjpaaSums
namespace Go.Proofs.Ytapoagpkjngjpaa
open Go.RowKit Go.Shelf
set_option linter.unusedSimpArgs false
set_option linter.unusedVariables false
set_option maxRecDepth 100000

set_option maxHeartbeats 1000000 in
theorem refJoin_at (w : World) (was : Nat) (hw : was < 4294967296) (v : Value) (B : List Nat) (hs : Src w v B) (hl : B.length ≤ 1000000) :
    Calls Try.prog 61 #[.int .u32 was, v] w fun e w' => e = .returned (.int .u32 (joinN was B)) ∧ w = w' := by
  obtain ⟨bo, cap, rfl, hcap, hB, hsrc, hnil⟩ := hs
  clear hnil
  have HB := hide hB
  have HSrc := hide hsrc
  obtain ⟨q, hq⟩ : ∃ q : Nat, q = 4294967295 - was := ⟨_, rfl⟩
  have HJ : Hid (joinN was B = 4294967295 - refN q B (8 * B.length)) := hide (by rw [refN_all q B hB, hq]; rfl)
  have hwq : IntKind.u32.wrap (4294967295 - (was : Int)) = (q : Int) := by rw [IntKind.wrap_u32']; omega
  have hq0 : q < 4294967296 := by omega
  have h8 : IntKind.i64.wrap (8 * (B.length : Int)) = ((8 * B.length : Nat) : Int) := by rw [IntKind.wrap_i64]; omega
  clear hB hsrc hq
  go_enter Try.func61, Try.ntmps61
  go_wp2
  clear hwq
  go_loopw [5, 6] (fun v i wr => ∃ k : Nat, k ≤ 8 * B.length ∧ v = .int .u32 (refN q B k : Nat) ∧ i = .int .i64 k ∧ w = wr) (fun _ i _ => 8 * B.length - (intOf i).toNat)
  case atStart => exact ⟨0, by omega, rfl, rfl, rfl⟩
  case round =>
    obtain ⟨k, hk, rfl, rfl, rfl⟩ := hrel
    have hr0 := refN_lt hq0 B k
    by_cases hlt : k < 8 * B.length
    · obtain ⟨p, hp⟩ : ∃ p, p = k / 8 := ⟨_, rfl⟩
      obtain ⟨j, hj⟩ : ∃ j, j = k % 8 := ⟨_, rfl⟩
      have HN0 : refN q B (k + 1) = bitN (refN q B k) (B.getD p 0 / 2 ^ j) := by rw [hp, hj]; rfl
      have hpl : p < B.length := by omega
      have hj8 : j < 8 := by omega
      have k1 : ((k : Int)) / 8 = (p : Int) := by omega
      have k2 : ((k : Int)) % 8 = (j : Int) := by omega
      have k3 : ((k : Int)).tmod 8 = (j : Int) := by rw [Int.tmod_eq_emod_of_nonneg (by omega)]; exact k2
      have k4 : IntKind.u64.wrap (j : Int) = (j : Int) := by rw [IntKind.wrap_u64]; omega
      obtain ⟨sb, so, rfl, hc⟩ := HSrc.out (by omega)
      have c0 := hc p _ (BV_get B p hpl)
      have hx := HB.out _ (List.getElem_mem hpl)
      have e0 : B.getD p 0 = B[p] := by simp [hpl]
      rw [e0] at HN0
      obtain ⟨r, hr⟩ : ∃ r, refN q B k = r := ⟨_, rfl⟩
      rw [hr] at hr0 HN0 ⊢
      generalize B[p] = x at *
      obtain ⟨y, hy⟩ : ∃ y, x / 2 ^ j = y := ⟨_, rfl⟩
      rw [hy] at HN0
      have HN := hide HN0
      have HY := hide hy
      have hyl : y < 256 := by rw [← hy]; exact Nat.lt_of_le_of_lt (Nat.div_le_self _ _) hx
      obtain ⟨d, hd⟩ : ∃ d : Nat, (d : Int) = (r : Int) / 2 := ⟨r / 2, by omega⟩
      have hdr : ((r : Int)) / 2 = (d : Int) := hd.symm
      have hdl : d < 4294967296 := by omega
      have hwd : IntKind.u32.wrap (d : Int) = (d : Int) := by rw [IntKind.wrap_u32']; omega
      have hwp : IntKind.i64.wrap (p : Int) = (p : Int) := by rw [IntKind.wrap_i64]; omega
      clear hc hy hr HN0 e0 hd hp hj
      have hr2 : r % 2 = 0 ∨ r % 2 = 1 := by omega
      have hy2 : y % 2 = 0 ∨ y % 2 = 1 := by omega
      rcases hr2 with hr2 | hr2 <;> rcases hy2 with hy2 | hy2
      · skip
        have m1 : ((r : Int)) % 2 = 0 := by omega
        have m2 : ((r : Int)).tmod 2 = 0 := by rw [Int.tmod_eq_emod_of_nonneg (by omega)]; exact m1
        have y1 : ((y : Int)) % 2 = 0 := by omega
        have y2 : ((y : Int)).tmod 2 = 0 := by rw [Int.tmod_eq_emod_of_nonneg (by omega)]; exact y1
        have HX : Hid (bitN r y = d) := hide (by unfold bitN; rw [if_pos (by omega)]; omega)
        clear hr2 hy2
        go_wp2_with (with_reducible refine stop_bin .shr ?_)
        refine hide ?_
        refine wpList_run rfl (r_shr8 (p := x) (j := j) (k := .u64) (by omega) rfl rfl) ?_
        rw [HY.out]
        rw [show ((d : Nat) : Int) = ((refN q B (k + 1) : Nat) : Int) by rw [HN.out, HX.out]] at *
        go_wp2
        go_roundw
        case rel => exact ⟨k + 1, by omega, rfl, by go_num, trivial⟩
        case measure => simp [intOf]; omega
      · skip
        have m1 : ((r : Int)) % 2 = 0 := by omega
        have m2 : ((r : Int)).tmod 2 = 0 := by rw [Int.tmod_eq_emod_of_nonneg (by omega)]; exact m1
        have y1 : ((y : Int)) % 2 = 1 := by omega
        have y2 : ((y : Int)).tmod 2 = 1 := by rw [Int.tmod_eq_emod_of_nonneg (by omega)]; exact y1
        have HX : Hid (bitN r y = d ^^^ 3988292384) := hide (by unfold bitN polyN; rw [if_neg (by omega)]; congr 1; omega)
        clear hr2 hy2
        go_wp2_with (with_reducible refine stop_bin .shr ?_)
        refine hide ?_
        refine wpList_run rfl (r_shr8 (p := x) (j := j) (k := .u64) (by omega) rfl rfl) ?_
        rw [HY.out]
        go_wp2_with (with_reducible refine stop_bin .xor ?_)
        refine hide ?_
        refine wpList_run rfl (r_xor32 (p := d) (q := 3988292384) (by omega) (by decide) rfl rfl) ?_
        rw [← HX.out, ← HN.out]
        go_wp2
        go_roundw
        case rel => exact ⟨k + 1, by omega, rfl, by go_num, trivial⟩
        case measure => simp [intOf]; omega
      · skip
        have m1 : ((r : Int)) % 2 = 1 := by omega
        have m2 : ((r : Int)).tmod 2 = 1 := by rw [Int.tmod_eq_emod_of_nonneg (by omega)]; exact m1
        have y1 : ((y : Int)) % 2 = 0 := by omega
        have y2 : ((y : Int)).tmod 2 = 0 := by rw [Int.tmod_eq_emod_of_nonneg (by omega)]; exact y1
        have HX : Hid (bitN r y = d ^^^ 3988292384) := hide (by unfold bitN polyN; rw [if_neg (by omega)]; congr 1; omega)
        clear hr2 hy2
        go_wp2_with (with_reducible refine stop_bin .shr ?_)
        refine hide ?_
        refine wpList_run rfl (r_shr8 (p := x) (j := j) (k := .u64) (by omega) rfl rfl) ?_
        rw [HY.out]
        go_wp2_with (with_reducible refine stop_bin .xor ?_)
        refine hide ?_
        refine wpList_run rfl (r_xor32 (p := d) (q := 3988292384) (by omega) (by decide) rfl rfl) ?_
        rw [← HX.out, ← HN.out]
        go_wp2
        go_roundw
        case rel => exact ⟨k + 1, by omega, rfl, by go_num, trivial⟩
        case measure => simp [intOf]; omega
      · skip
        have m1 : ((r : Int)) % 2 = 1 := by omega
        have m2 : ((r : Int)).tmod 2 = 1 := by rw [Int.tmod_eq_emod_of_nonneg (by omega)]; exact m1
        have y1 : ((y : Int)) % 2 = 1 := by omega
        have y2 : ((y : Int)).tmod 2 = 1 := by rw [Int.tmod_eq_emod_of_nonneg (by omega)]; exact y1
        have HX : Hid (bitN r y = d) := hide (by unfold bitN; rw [if_pos (by omega)]; omega)
        clear hr2 hy2
        go_wp2_with (with_reducible refine stop_bin .shr ?_)
        refine hide ?_
        refine wpList_run rfl (r_shr8 (p := x) (j := j) (k := .u64) (by omega) rfl rfl) ?_
        rw [HY.out]
        rw [show ((d : Nat) : Int) = ((refN q B (k + 1) : Nat) : Int) by rw [HN.out, HX.out]] at *
        go_wp2
        go_roundw
        case rel => exact ⟨k + 1, by omega, rfl, by go_num, trivial⟩
        case measure => simp [intOf]; omega
    · obtain rfl : k = 8 * B.length := by omega
      have hwr : IntKind.u32.wrap (4294967295 - (refN q B (8 * B.length) : Int)) = ((joinN was B : Nat) : Int) := by rw [HJ.out, IntKind.wrap_u32']; omega
      generalize refN q B (8 * B.length) = r at *
      obtain ⟨z, hz⟩ : ∃ z, joinN was B = z := ⟨_, rfl⟩
      rw [hz] at hwr
      have HZ := hide hz
      clear hz
      go_wp2
      go_ret
      exact ⟨by rw [HZ.out]; rfl, rfl⟩

end Go.Proofs.Ytapoagpkjngjpaa
