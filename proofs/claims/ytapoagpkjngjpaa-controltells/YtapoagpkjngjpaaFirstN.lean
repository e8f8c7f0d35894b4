/-
  pack.first: the number that bytes begin with.
-/
import Derived.Test.YtapoagpkjngjpaaTell
namespace Go.Proofs.Ytapoagpkjngjpaa
open Go.RowKit Go.Shelf
set_option linter.unusedSimpArgs false
set_option linter.unusedVariables false
set_option maxRecDepth 100000

section
variable {ρ : Operand → Value} {w : World} {dst : Option Tmp} {ty : TypeId} {pos : String} {aft : Array Edge} {gd : Option (Nat × Bool)} {x y z : Operand}
theorem r_hi25 {a : Addr} {len cap : Nat} (h : Nat) {k : IntKind} (hx : ρ x = .slice (some a) len cap) (hy : ρ y = .int k h) (hl : h ≤ cap) :
    (execOp ρ ⟨dst, .slice 24 x none (some y) none, ty, pos, aft, gd⟩).run Try.prog w = .ok (.value (.slice (some a) h cap)) w := by
  obtain ⟨i5, hi5, hz5, hs5, hb5⟩ := info_parts Try.info5
  have h2 : (0 : Int) ≤ (h : Int) ∧ (h : Int) ≤ (cap : Int) := by omega
  by_cases h1 : cap = 0
  · subst h1
    obtain rfl : h = 0 := by omega
    simp [execOp, Instr.sliceAt, run_underlying Try.underlying24, Instr.slice, hx, hy, Instr.sliceBounds, Instr.sliceBound, asIntOf, sizeOf, typeInfo, hi5]
  · simp [execOp, Instr.sliceAt, run_underlying Try.underlying24, Instr.slice, hx, hy, Instr.sliceBounds, Instr.sliceBound, asIntOf, h2, hl, sizeOf, typeInfo, hi5, h1, Addr.add]
end

/-- What 'first' answers. -/
def firstV (o : Option Nat) : Value := match o with | none => .tuple #[.int .i64 0, .bool false] | some n => .tuple #[.int .i64 n, .bool true]
theorem firstN_no {B : List Nat} {m : Int} (h : ¬ (1 ≤ m ∧ m ≤ 8)) : firstN B m = none := by unfold firstN; rw [if_neg]; intro h2; exact h ⟨h2.1, h2.2.1⟩
theorem firstN_few {B : List Nat} {m : Int} (h : (B.length : Int) < m) : firstN B m = none := by unfold firstN; rw [if_neg]; intro h2; omega
theorem firstN_is {B : List Nat} {m : Nat} (h1 : 1 ≤ m) (h8 : m ≤ 8) (hl : m ≤ B.length) : firstN B m = if valN (B.take m) < 9223372036854775808 then some (valN (B.take m)) else none := by
  unfold firstN
  simp only [Int.toNat_natCast]
  by_cases h : valN (B.take m) < 9223372036854775808
  · rw [if_pos ⟨by omega, by omega, by omega, h⟩, if_pos h]
  · rw [if_neg (fun h2 => h h2.2.2.2), if_neg h]

set_option maxHeartbeats 2000000 in
theorem first_at (w : World) (v : Value) (B : List Nat) (hs : Src w v B) (hl : B.length ≤ 9223372036854775807) (m : Int) :
    Calls Try.prog 46 #[v, .int .i64 m] w fun e w' => e = .returned (firstV (firstN B m)) ∧ w = w' := by
  obtain ⟨bo, cap, rfl, hcap, hB, hsrc, hnil⟩ := hs
  have HW := hide (isWidth_at w m)
  by_cases h1 : 1 ≤ m ∧ m ≤ 8
  · rw [decide_eq_true h1] at HW
    by_cases hfew : (B.length : Int) < m
    · have HN := hide (firstN_few hfew)
      have hfew' : m > (B.length : Int) := hfew
      clear hsrc hB hnil
      go_enter Try.func46, Try.ntmps46
      go_wp2_with fail
      refine HW.out.mono ?_
      rintro e w1 ⟨rfl, rfl⟩
      go_wp2
      go_ret2
      exact ⟨by rw [HN.out]; rfl, rfl⟩
    · obtain ⟨q, rfl⟩ : ∃ q : Nat, m = q := ⟨m.toNat, by omega⟩
      have hq1 : 1 ≤ q := by omega
      have hq8 : q ≤ 8 := by omega
      have hql : q ≤ B.length := by omega
      have HN := hide (firstN_is hq1 hq8 hql)
      obtain ⟨sb, so, rfl, hc⟩ := hsrc (by omega)
      have HC := hide hc
      have HB := hide hB
      clear hc hB hsrc hnil h1
      go_enter Try.func46, Try.ntmps46
      go_wp2_with fail
      refine HW.out.mono ?_
      rintro e w1 ⟨rfl, rfl⟩
      go_wp2_with (with_reducible refine stop_slice 24 ?_)
      refine hide ?_
      refine wpList_run rfl (r_hi25 (len := B.length) (cap := cap) q (k := .i64) rfl rfl (by omega)) ?_
      go_wp2
      go_loopw [6, 22] (fun v i wr => ∃ k : Nat, k ≤ q ∧ v = .int .u64 (valN (B.take k) : Nat) ∧ i = .int .i64 k ∧ w = wr) (fun _ i _ => q - (intOf i).toNat)
      case atStart => exact ⟨0, by omega, rfl, rfl, rfl⟩
      case round =>
        obtain ⟨k, hk, rfl, rfl, rfl⟩ := hrel
        by_cases hlt : k < q
        · have hkB : k < B.length := by omega
          have c0 := HC.out k _ (BV_get B k hkB)
          have hx := HB.out _ (List.getElem_mem hkB)
          have HT : Hid (valN (B.take (k + 1)) = valN (B.take k) * 256 + B[k]) := hide (by rw [← List.take_append_getElem hkB, valN_snoc])
          have hvl : valN (B.take k) < 72057594037927936 := by
            have h1 := valN_lt (B.take k) (fun y hy => HB.out y (List.mem_of_mem_take hy))
            have h2 : (B.take k).length ≤ 7 := by simp; omega
            have h3 := pow256_le7 h2
            omega
          generalize valN (B.take k) = r at *
          generalize B[k] = x at *
          have hwx : IntKind.u64.wrap (x : Int) = (x : Int) := by rw [IntKind.wrap_u64]; omega
          go_wp2_with (with_reducible refine stop_bin .shl ?_)
          refine hide ?_
          refine wpList_run rfl (r_shl64 (p := r) hvl rfl rfl) ?_
          go_wp2_with (with_reducible refine stop_bin .or ?_)
          refine hide ?_
          refine wpList_run rfl (r_or64 (p := r) (q := x) hvl hx rfl rfl) ?_
          rw [← HT.out]
          go_wp2
          go_roundw
          case rel => exact ⟨k + 1, by omega, rfl, by go_num, trivial⟩
          case measure => simp [intOf]; omega
        · obtain rfl : k = q := by omega
          have hvl : valN (B.take k) < 18446744073709551616 := by
            have h1 := valN_lt (B.take k) (fun y hy => HB.out y (List.mem_of_mem_take hy))
            have h2 : (B.take k).length ≤ 8 := by simp; omega
            have h3 := pow256_le h2
            omega
          generalize valN (B.take k) = r at *
          by_cases hbig : r < 9223372036854775808
          · have hwr : IntKind.i64.wrap (r : Int) = (r : Int) := by rw [IntKind.wrap_i64]; omega
            have HN2 := hide HN.out
            rw [if_pos hbig] at HN2
            clear HN
            go_wp2
            go_ret2
            exact ⟨by rw [HN2.out]; rfl, rfl⟩
          · have HN2 := hide HN.out
            rw [if_neg hbig] at HN2
            have hbig' : (9223372036854775807 : Int) < (r : Int) := by omega
            clear HN
            go_wp2
            go_ret2
            exact ⟨by rw [HN2.out]; rfl, rfl⟩
  · rw [decide_eq_false h1] at HW
    have HN := hide (firstN_no (B := B) h1)
    clear hsrc hB hnil
    go_enter Try.func46, Try.ntmps46
    go_wp2_with fail
    refine HW.out.mono ?_
    rintro e w1 ⟨rfl, rfl⟩
    go_wp2
    go_ret2
    exact ⟨by rw [HN.out]; rfl, rfl⟩

end Go.Proofs.Ytapoagpkjngjpaa
