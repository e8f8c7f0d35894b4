/-
  The types of the translation that the walks of package crc meet, as closed facts; bytes in memory; the run of single operations on uint32 and bytes.
-/
import Derived.Test.YteacfkbchgjcbaaRows
import Derived.Test.YteacfkbchgjcbaaReg
import Derived.Test.YteacfkbchgjcbaaMath
import Derived.Laws.BitsAllLaws
import Derived.Laws.StructEq
import Derived.Shelf.Abstract
namespace Go.Proofs.Yteacfkbchgjcbaa
open Go.RowKit Go.Shelf
set_option linter.unusedSimpArgs false
set_option linter.unusedVariables false

theorem Try.info5 : (Try.prog.info? 5).map (fun i => (i.zero, i.size, i.bytes)) = some (some (.int .u8 0), 1, 1) := by kernel_rfl
theorem Try.info38 : (Try.prog.info? 38).map (fun i => (i.zero, i.size, i.bytes)) = some (some (.agg (List.replicate 4 (.int .u8 0)).toArray), 4, 4) := by kernel_rfl
theorem Try.agg38 : aggSize Try.prog 38 4 := by
  obtain ⟨i0, hi, _, hs, _⟩ := info_parts Try.info38
  exact ⟨⟨i0, hi, hs⟩, _, Try.underlying38, .inl ⟨_, _, rfl⟩⟩
theorem Try.mixed : Try.prog.follows .mixedOrders = true := by kernel_rfl

/-- Bytes as values. -/
def BV (B : List Nat) : List Value := B.map fun n : Nat => .int .u8 (n : Int)
theorem BV_length (B : List Nat) : (BV B).length = B.length := by simp [BV]
theorem BV_one (B : List Nat) : ∀ v ∈ BV B, v.oneCell' = true := by
  intro v hv
  simp [BV] at hv
  obtain ⟨n, _, rfl⟩ := hv
  rfl
theorem BV_get (B : List Nat) (i : Nat) (h : i < B.length) : (BV B)[i]? = some (.int .u8 (B[i] : Int)) := by simp [BV, h]
theorem BV_append (A B : List Nat) : BV (A ++ B) = BV A ++ BV B := by simp [BV]
theorem BV_take (B : List Nat) (n : Nat) : BV (B.take n) = (BV B).take n := by simp [BV]
theorem BV_drop (B : List Nat) (n : Nat) : BV (B.drop n) = (BV B).drop n := by simp [BV]

/-- v is a slice that holds the bytes B. -/
def Src (w : World) (v : Value) (B : List Nat) : Prop :=
  ∃ bo cap, v = .slice bo B.length cap ∧ B.length ≤ cap ∧ (∀ x ∈ B, x < 256) ∧ (0 < B.length → ∃ sb so, bo = some ⟨sb, so, none⟩ ∧ Cells w sb so (BV B)) ∧ (bo = none → cap = 0)
theorem Src.kept {w w' : World} {v : Value} {B : List Nat} (h : Src w v B) (hk : Kept (fun _ => False) w w') : Src w' v B := by
  obtain ⟨bo, cap, rfl, h1, h2, h3, h4⟩ := h
  exact ⟨bo, cap, rfl, h1, h2, fun h => by obtain ⟨sb, so, e, hc⟩ := h3 h; exact ⟨sb, so, e, hk.cells hc (fun h => h)⟩, h4⟩

def strN (B : List Nat) : ByteArray := strOfNums (B.map fun n : Nat => (n : Int))
theorem strN_data (B : List Nat) : (strN B).data = (B.map UInt8.ofNat).toArray := by simp [strN, strOfNums]
theorem strN_inj {A B : List Nat} (hA : ∀ x ∈ A, x < 256) (hB : ∀ x ∈ B, x < 256) (h : strN A = strN B) : A = B := by
  have h1 : A.map UInt8.ofNat = B.map UInt8.ofNat := by
    have := congrArg ByteArray.data h
    rw [strN_data, strN_data] at this
    simpa using this
  have hl : A.length = B.length := by have := congrArg List.length h1; simpa using this
  apply List.ext_getElem hl
  intro i ha hb
  have := congrArg (fun l => l[i]?) h1
  simp [ha, hb] at this
  have e := congrArg UInt8.toNat this
  simp at e
  have := hA _ (List.getElem_mem ha)
  have := hB _ (List.getElem_mem hb)
  omega
theorem strN_iff {A B : List Nat} (hA : ∀ x ∈ A, x < 256) (hB : ∀ x ∈ B, x < 256) : (strN A = strN B) ↔ A = B := ⟨strN_inj hA hB, fun h => by rw [h]⟩

section
variable {ρ : Operand → Value} {w : World} {dst : Option Tmp} {ty : TypeId} {pos : String} {aft : Array Edge} {gd : Option (Nat × Bool)} {x y z : Operand}
theorem r_move {v : Value} (hx : ρ x = v) : (execOp ρ ⟨dst, .move x, ty, pos, aft, gd⟩).run Try.prog w = .ok (.value v) w := by
  go_simp
theorem r_assign {v : Value} (hx : ρ x = v) : (execOp ρ ⟨dst, .assign x, ty, pos, aft, gd⟩).run Try.prog w = .ok (.value v) w := by
  go_simp
theorem r_pick {v : Value} (hx : ρ x = .bool true) (hy : ρ y = v) : (execOp ρ ⟨dst, .pick x y z, ty, pos, aft, gd⟩).run Try.prog w = .ok (.value v) w := by
  go_simp
theorem r_pickF {v : Value} (hx : ρ x = .bool false) (hz : ρ z = v) : (execOp ρ ⟨dst, .pick x y z, ty, pos, aft, gd⟩).run Try.prog w = .ok (.value v) w := by
  go_simp
theorem r_not {b : Bool} (hx : ρ x = .bool b) : (execOp ρ ⟨dst, .unOp .not 4 x, ty, pos, aft, gd⟩).run Try.prog w = .ok (.value (.bool (!b))) w := by
  go_simp
theorem r_eql23 {p q : Nat} (hx : ρ x = .int .u32 p) (hy : ρ y = .int .u32 q) : (execOp ρ ⟨dst, .binOp .eql 23 x y 23, ty, pos, aft, gd⟩).run Try.prog w = .ok (.value (.bool (decide (p = q)))) w := by
  go_simp
  rw [Bool.eq_iff_iff]; simp; omega
theorem r_eql4 {p q : Bool} (hx : ρ x = .bool p) (hy : ρ y = .bool q) : (execOp ρ ⟨dst, .binOp .eql 4 x y 4, ty, pos, aft, gd⟩).run Try.prog w = .ok (.value (.bool (p == q))) w := by
  go_simp
theorem r_eql9 {p q : ByteArray} (hx : ρ x = .string p) (hy : ρ y = .string q) : (execOp ρ ⟨dst, .binOp .eql 9 x y 9, ty, pos, aft, gd⟩).run Try.prog w = .ok (.value (.bool (decide (p = q)))) w := by
  go_simp
  rw [ByteArray.toList_eq, ByteArray.toList_eq, Bool.eq_iff_iff]
  simp only [beq_iff_eq, decide_eq_true_eq]
  exact ⟨fun h => ByteArray.ext (Array.toList_inj.1 h), fun h => by rw [h]⟩
theorem r_eql3 {p q : Int} (hx : ρ x = .int .i64 p) (hy : ρ y = .int .i64 q) : (execOp ρ ⟨dst, .binOp .eql 3 x y 3, ty, pos, aft, gd⟩).run Try.prog w = .ok (.value (.bool (decide (p = q)))) w := by
  go_simp
  rw [Bool.eq_iff_iff]; simp
theorem r_len22 {ao : Option Addr} {l c : Nat} (hx : ρ x = .slice ao l c) : (execOp ρ ⟨dst, .call { callee := .builtin .len, args := #[x], argTypes := #[22] }, ty, pos, aft, gd⟩).run Try.prog w = .ok (.value (.int .i64 l)) w := by
  go_simp
theorem r_call1 {f : FuncId} {v : Value} {t : TypeId} {fn : Func} {c : Code} (hf : Try.prog.funcs[f]? = some fn) (hn : (fn.name == "runtime.NumGoroutine") = false) (hb : fn.body = some c) (hfv : ρ (.func f) = .func (.func f) #[] #[]) (hx : ρ x = v) :
    (execOp ρ ⟨dst, .call { callee := .value (.func f), args := #[x], argTypes := #[t] }, ty, pos, aft, gd⟩).run Try.prog w = .ok (.enter f #[v]) w := by
  have h := enters_of hf hn hb #[v] w
  simp [execOp, resolve, hfv, hx, Deferred.ofValue, invoke, h]
theorem r_call2 {f : FuncId} {u v : Value} {t s : TypeId} {fn : Func} {c : Code} (hf : Try.prog.funcs[f]? = some fn) (hn : (fn.name == "runtime.NumGoroutine") = false) (hb : fn.body = some c) (hfv : ρ (.func f) = .func (.func f) #[] #[]) (hx : ρ x = u) (hy : ρ y = v) :
    (execOp ρ ⟨dst, .call { callee := .value (.func f), args := #[x, y], argTypes := #[t, s] }, ty, pos, aft, gd⟩).run Try.prog w = .ok (.enter f #[u, v]) w := by
  have h := enters_of hf hn hb #[u, v] w
  simp [execOp, resolve, hfv, hx, hy, Deferred.ofValue, invoke, h]
theorem r_xor32 {tb : TypeId} {p q : Nat} (hp : p < 4294967296) (hq : q < 4294967296) (hx : ρ x = .int .u32 p) (hy : ρ y = .int .u32 q) :
    (execOp ρ ⟨dst, .binOp .xor 23 x y tb, ty, pos, aft, gd⟩).run Try.prog w = .ok (.value (.int .u32 ((p ^^^ q : Nat) : Int))) w := by
  have h := u32_xor_nat p q hp hq
  unfold bits at h
  simp [execOp, eqGuard, binOp, Op.intBits, hx, hy]
  simpa using h
theorem r_and32 {tb : TypeId} {p q : Nat} (hp : p < 4294967296) (hq : q < 4294967296) (hx : ρ x = .int .u32 p) (hy : ρ y = .int .u32 q) :
    (execOp ρ ⟨dst, .binOp .and 23 x y tb, ty, pos, aft, gd⟩).run Try.prog w = .ok (.value (.int .u32 ((p &&& q : Nat) : Int))) w := by
  have h := u32_and_nat p q hp hq
  unfold bits at h
  simp [execOp, eqGuard, binOp, Op.intBits, hx, hy]
  simpa using h
theorem r_shr32 {tb : TypeId} {p : Nat} {j : Nat} {k : IntKind} (hj : j ≤ 32) (hx : ρ x = .int .u32 p) (hy : ρ y = .int k j) :
    (execOp ρ ⟨dst, .binOp .shr 23 x y tb, ty, pos, aft, gd⟩).run Try.prog w = .ok (.value (.int .u32 ((p / 2 ^ j : Nat) : Int))) w := by
  have hn : ¬ ((j : Int) < 0) := by omega
  have hm : min ((j : Int).toNat) IntKind.u32.bits = j := by simp [IntKind.bits]; omega
  simp [execOp, eqGuard, binOp, Op.shift, hx, hy, hn, hm]
theorem r_shr8 {tb : TypeId} {p : Nat} {j : Nat} {k : IntKind} (hj : j ≤ 8) (hx : ρ x = .int .u8 p) (hy : ρ y = .int k j) :
    (execOp ρ ⟨dst, .binOp .shr 5 x y tb, ty, pos, aft, gd⟩).run Try.prog w = .ok (.value (.int .u8 ((p / 2 ^ j : Nat) : Int))) w := by
  have hn : ¬ ((j : Int) < 0) := by omega
  have hm : min ((j : Int).toNat) IntKind.u8.bits = j := by simp [IntKind.bits]; omega
  simp [execOp, eqGuard, binOp, Op.shift, hx, hy, hn, hm]
theorem r_not32 {p : Nat} (hp : p < 4294967296) (hx : ρ x = .int .u32 p) :
    (execOp ρ ⟨dst, .unOp .xor 23 x, ty, pos, aft, gd⟩).run Try.prog w = .ok (.value (.int .u32 ((4294967295 - p : Nat) : Int))) w := by
  have h := u32_xor_nat 4294967295 p (by decide) hp
  unfold bits at h
  have e : 4294967295 ^^^ p = 4294967295 - p := by
    apply Nat.eq_of_testBit_eq
    intro i
    have h1 := Nat.testBit_two_pow_sub_succ (x := p) (n := 32) (by omega) i
    have h2 : 4294967295 - p = 2 ^ 32 - (p + 1) := by omega
    rw [h2, h1, Nat.testBit_xor, show 4294967295 = 2 ^ 32 - 1 by decide, Nat.testBit_two_pow_sub_one]
    by_cases hi : i < 32
    · simp [hi]
    · have : p.testBit i = false := Nat.testBit_lt_two_pow (Nat.lt_of_lt_of_le hp (by
        have : 2 ^ 32 ≤ 2 ^ i := Nat.pow_le_pow_right (by omega) (by omega)
        simpa using this))
      simp [hi, this]
  rw [e] at h
  have hmx : IntKind.u32.max = 4294967295 := by decide
  simp only [execOp, hx, unary_xor, IntKind.signed, Bool.false_eq_true, if_false, hmx]
  simp [Op.intBits]
  simpa using h
end

end Go.Proofs.Yteacfkbchgjcbaa
