/-
  The types of the translation that the walks of package crc meet, as closed facts; bytes in memory; the run of single operations on uint32 and bytes.
-/
import Derived.Test.YtapoagpkjngjpaaPOps
import Derived.Test.YtapoagpkjngjpaaReg
import Derived.Test.YtapoagpkjngjpaaMath
import Derived.Laws.BitsAllLaws
import Derived.Laws.StructEq
import Derived.Shelf.Abstract
namespace Go.Proofs.Ytapoagpkjngjpaa
open Go.RowKit Go.Shelf
set_option linter.unusedSimpArgs false
set_option linter.unusedVariables false
set_option maxRecDepth 100000

theorem Try.info108 : (Try.prog.info? 108).map (fun i => (i.zero, i.size, i.bytes)) = some (some (.agg (List.replicate 4 (.int .u8 0)).toArray), 4, 4) := by kernel_rfl
theorem Try.agg108 : aggSize Try.prog 108 4 := by
  obtain ⟨i0, hi, _, hs, _⟩ := info_parts Try.info108
  exact ⟨⟨i0, hi, hs⟩, _, Try.underlying108, .inl ⟨_, _, rfl⟩⟩
section
variable {ρ : Operand → Value} {w : World} {dst : Option Tmp} {ty : TypeId} {pos : String} {aft : Array Edge} {gd : Option (Nat × Bool)} {x y z : Operand}
theorem r_eql23 {p q : Nat} (hx : ρ x = .int .u32 p) (hy : ρ y = .int .u32 q) : (execOp ρ ⟨dst, .binOp .eql 104 x y 104, ty, pos, aft, gd⟩).run Try.prog w = .ok (.value (.bool (decide (p = q)))) w := by
  go_simp
  rw [Bool.eq_iff_iff]; simp; omega
theorem r_len22 {ao : Option Addr} {l c : Nat} (hx : ρ x = .slice ao l c) : (execOp ρ ⟨dst, .call { callee := .builtin .len, args := #[x], argTypes := #[24] }, ty, pos, aft, gd⟩).run Try.prog w = .ok (.value (.int .i64 l)) w := by
  go_simp
theorem r_xor32 {tb : TypeId} {p q : Nat} (hp : p < 4294967296) (hq : q < 4294967296) (hx : ρ x = .int .u32 p) (hy : ρ y = .int .u32 q) :
    (execOp ρ ⟨dst, .binOp .xor 104 x y tb, ty, pos, aft, gd⟩).run Try.prog w = .ok (.value (.int .u32 ((p ^^^ q : Nat) : Int))) w := by
  have h := u32_xor_nat p q hp hq
  unfold bits at h
  simp [execOp, eqGuard, binOp, Op.intBits, hx, hy]
  simpa using h
theorem r_and32 {tb : TypeId} {p q : Nat} (hp : p < 4294967296) (hq : q < 4294967296) (hx : ρ x = .int .u32 p) (hy : ρ y = .int .u32 q) :
    (execOp ρ ⟨dst, .binOp .and 104 x y tb, ty, pos, aft, gd⟩).run Try.prog w = .ok (.value (.int .u32 ((p &&& q : Nat) : Int))) w := by
  have h := u32_and_nat p q hp hq
  unfold bits at h
  simp [execOp, eqGuard, binOp, Op.intBits, hx, hy]
  simpa using h
theorem r_shr32 {tb : TypeId} {p : Nat} {j : Nat} {k : IntKind} (hj : j ≤ 32) (hx : ρ x = .int .u32 p) (hy : ρ y = .int k j) :
    (execOp ρ ⟨dst, .binOp .shr 104 x y tb, ty, pos, aft, gd⟩).run Try.prog w = .ok (.value (.int .u32 ((p / 2 ^ j : Nat) : Int))) w := by
  have hn : ¬ ((j : Int) < 0) := by omega
  have hm : min ((j : Int).toNat) IntKind.u32.bits = j := by simp [IntKind.bits]; omega
  simp [execOp, eqGuard, binOp, Op.shift, hx, hy, hn, hm]
theorem r_shr8 {tb : TypeId} {p : Nat} {j : Nat} {k : IntKind} (hj : j ≤ 8) (hx : ρ x = .int .u8 p) (hy : ρ y = .int k j) :
    (execOp ρ ⟨dst, .binOp .shr 5 x y tb, ty, pos, aft, gd⟩).run Try.prog w = .ok (.value (.int .u8 ((p / 2 ^ j : Nat) : Int))) w := by
  have hn : ¬ ((j : Int) < 0) := by omega
  have hm : min ((j : Int).toNat) IntKind.u8.bits = j := by simp [IntKind.bits]; omega
  simp [execOp, eqGuard, binOp, Op.shift, hx, hy, hn, hm]
theorem r_not32 {p : Nat} (hp : p < 4294967296) (hx : ρ x = .int .u32 p) :
    (execOp ρ ⟨dst, .unOp .xor 104 x, ty, pos, aft, gd⟩).run Try.prog w = .ok (.value (.int .u32 ((4294967295 - p : Nat) : Int))) w := by
  have h := u32_xor_nat 4294967295 p (by decide) hp
  unfold bits at h
  have e : 4294967295 ^^^ p = 4294967295 - p := by
    apply Nat.eq_of_testBit_eq
    intro i
    have h1 := Nat.testBit_two_pow_sub_succ (x := p) (n := 32) (by omega) i
    have h2 : 4294967295 - p = 2 ^ 32 - (p + 1) := by omega
    rw [h2, h1, Nat.testBit_xor, show 4294967295 = 2 ^ 32 - 1 by decide, Nat.testBit_two_pow_sub_one]
    by_cases hi : i < 32
    · simp [hi]
    · have : p.testBit i = false := Nat.testBit_lt_two_pow (Nat.lt_of_lt_of_le hp (by
        have : 2 ^ 32 ≤ 2 ^ i := Nat.pow_le_pow_right (by omega) (by omega)
        simpa using this))
      simp [hi, this]
  rw [e] at h
  have hmx : IntKind.u32.max = 4294967295 := by decide
  simp only [execOp, hx, unary_xor, IntKind.signed, Bool.false_eq_true, if_false, hmx]
  simp [Op.intBits]
  simpa using h
end

end Go.Proofs.Ytapoagpkjngjpaa
