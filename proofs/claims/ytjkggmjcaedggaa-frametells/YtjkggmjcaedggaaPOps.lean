/-
  The statements' operations: as they lie in memory, and what a pen writes of them.
-/
import Derived.Test.YtjkggmjcaedggaaPFirst
import Derived.Test.YtjkggmjcaedggaaFl
namespace Go.Proofs.Ytjkggmjcaedggaa
open Go.RowKit Go.Shelf
set_option linter.unusedSimpArgs false
set_option linter.unusedVariables false

section
variable {ρ : Operand → Value} {w : World} {dst : Option Tmp} {ty : TypeId} {pos : String} {aft : Array Edge} {gd : Option (Nat × Bool)} {x y z : Operand}
theorem r_ld3 {b o : Nat} {v : Value} (hx : ρ x = .pointer (some ⟨b, o, none⟩)) (hc : w.cell? ⟨b, o, none⟩ = some v) : (execOp ρ ⟨dst, .load 3 x, ty, pos, aft, gd⟩).run Try.prog w = .ok (.value v) w := by
  go_simp
theorem r_rem2 {k : Int} (hx : ρ x = .int .i64 k) (hy : ρ y = .int .i64 2) : (execOp ρ ⟨dst, .binOp .rem 3 x y 3, ty, pos, aft, gd⟩).run Try.prog w = .ok (.value (.int .i64 (k.tmod 2))) w := by
  go_simp
theorem r_call3 {f : FuncId} {u v t : Value} {t1 t2 t3 : TypeId} {fn : Func} {c : Code} (hf : Try.prog.funcs[f]? = some fn) (hn : (fn.name == "runtime.NumGoroutine") = false) (hb : fn.body = some c) (hfv : ρ (.func f) = .func (.func f) #[] #[]) (hx : ρ x = u) (hy : ρ y = v) (hz : ρ z = t) :
    (execOp ρ ⟨dst, .call { callee := .value (.func f), args := #[x, y, z], argTypes := #[t1, t2, t3] }, ty, pos, aft, gd⟩).run Try.prog w = .ok (.enter f #[u, v, t]) w := by
  have h := enters_of hf hn hb #[u, v, t] w
  simp [execOp, resolve, hfv, hx, hy, hz, Deferred.ofValue, invoke, h]
end

end Go.Proofs.Ytjkggmjcaedggaa
