/-
  The statements' operations: as they lie in memory, and what a pen writes of them.
-/
import Derived.Test.YtapoagpkjngjpaaPFirst
import Derived.Test.YtapoagpkjngjpaaFl
import Derived.Test.YtapoagpkjngjpaaRow
import Derived.Test.YtapoagpkjngjpaaRegIn
namespace Go.Proofs.Ytapoagpkjngjpaa
open Go.RowKit Go.Shelf
set_option linter.unusedSimpArgs false
set_option linter.unusedVariables false
set_option maxRecDepth 100000

section
variable {ρ : Operand → Value} {w : World} {dst : Option Tmp} {ty : TypeId} {pos : String} {aft : Array Edge} {gd : Option (Nat × Bool)} {x y z : Operand}
theorem r_ld3 {b o : Nat} {v : Value} (hx : ρ x = .pointer (some ⟨b, o, none⟩)) (hc : w.cell? ⟨b, o, none⟩ = some v) : (execOp ρ ⟨dst, .load 3 x, ty, pos, aft, gd⟩).run Try.prog w = .ok (.value v) w := by
  go_simp
theorem r_rem2 {k : Int} (hx : ρ x = .int .i64 k) (hy : ρ y = .int .i64 2) : (execOp ρ ⟨dst, .binOp .rem 3 x y 3, ty, pos, aft, gd⟩).run Try.prog w = .ok (.value (.int .i64 (k.tmod 2))) w := by
  go_simp
theorem r_call3 {f : FuncId} {u v t : Value} {t1 t2 t3 : TypeId} {fn : Func} {c : Code} (hf : Try.prog.funcs[f]? = some fn) (hn : (fn.name == "runtime.NumGoroutine") = false) (hb : fn.body = some c) (hfv : ρ (.func f) = .func (.func f) #[] #[]) (hx : ρ x = u) (hy : ρ y = v) (hz : ρ z = t) :
    (execOp ρ ⟨dst, .call { callee := .value (.func f), args := #[x, y, z], argTypes := #[t1, t2, t3] }, ty, pos, aft, gd⟩).run Try.prog w = .ok (.enter f #[u, v, t]) w := by
  have h := enters_of hf hn hb #[u, v, t] w
  simp [execOp, resolve, hfv, hx, hy, hz, Deferred.ofValue, invoke, h]
end

theorem fits_eq {n m : Nat} (h1 : 1 ≤ m) (h8 : m ≤ 8) : fitsN n m = decide (n / 256 ^ m = 0) := by rw [fits_yes h1 h8, pow_8]
theorem first_yes {B : List Nat} (hB : ∀ x ∈ B, x < 256) (m : Nat) (h1 : 1 ≤ m) (h8 : m ≤ 8) (hl : m ≤ B.length) (h : m = 8 → B[0]'(by omega) ≤ 127) : firstN B m = some (valN (B.take m)) ∧ valN (B.take m) < 9223372036854775808 := by
  have hv : valN (B.take m) < 9223372036854775808 := by
    by_cases h7 : m ≤ 7
    · exact seven_lt B hB m h7
    · obtain rfl : m = 8 := by omega
      have h2 := eight_lt B hB hl
      have e : B.getD 0 0 = B[0]'(by omega) := by rw [List.getD_eq_getElem?_getD, List.getElem?_eq_getElem (by omega)]; rfl
      rw [e] at h2
      exact h2.2 (h rfl)
  rw [firstN_is h1 h8 hl, if_pos hv]
  exact ⟨rfl, hv⟩
end Go.Proofs.Ytapoagpkjngjpaa
