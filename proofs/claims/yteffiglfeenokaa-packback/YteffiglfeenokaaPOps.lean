/-
  The statements' operations: as they lie in memory, and what a pen writes of them.
-/
import Derived.Test.YteffiglfeenokaaPFirst
namespace Go.Proofs.Yteffiglfeenokaa
open Go.RowKit Go.Shelf
set_option linter.unusedSimpArgs false
set_option linter.unusedVariables false

theorem put_none (a : Act) (v : Value) : a.put none v = a := rfl
/-- An operation, as it was handed in. -/
structure OpV where
  kd : Int
  n : Int
  m : Int
  vb : Value
  B : List Nat
def OpV.cells (o : OpV) : List Value := [.int .i64 o.kd, .int .i64 o.n, .int .i64 o.m, o.vb]
theorem OpV.cells_length (o : OpV) : o.cells.length = 4 := rfl
def OpIs (w : World) (o : OpV) : Prop := Src w o.vb o.B ∧ (-9223372036854775808 ≤ o.kd ∧ o.kd ≤ 9223372036854775807) ∧ (-9223372036854775808 ≤ o.n ∧ o.n ≤ 9223372036854775807) ∧ (-9223372036854775808 ≤ o.m ∧ o.m ≤ 9223372036854775807) ∧ o.B.length ≤ 9223372036854775807
theorem OpIs.kept {w w' : World} {o : OpV} (h : OpIs w o) (hk : Kept (fun _ => False) w w') : OpIs w' o := ⟨h.1.kept hk, h.2⟩
theorem OpIs.one {w : World} {o : OpV} (h : OpIs w o) : ∀ v ∈ o.cells, v.oneCell' = true := by
  obtain ⟨bo, c, e, _⟩ := h.1
  intro v hv
  simp [OpV.cells, e] at hv
  rcases hv with rfl | rfl | rfl | rfl <;> rfl
theorem OpIs.slice {w : World} {o : OpV} (h : OpIs w o) : ∃ bo c, o.vb = .slice bo o.B.length c := by
  obtain ⟨bo, c, e, _⟩ := h.1
  exact ⟨bo, c, e⟩

/-- A list of operations, as it was handed in. -/
def OpsAt (w : World) (ao : Option Addr) (L : List OpV) : Prop := ∀ k (hk : k < L.length), ∃ sb so, ao = some ⟨sb, so, none⟩ ∧ Cells w sb (so + k * 4) L[k].cells ∧ OpIs w L[k]

/-- Is it written? And what. -/
def OpV.ok (o : OpV) : Bool := if o.kd.tmod 2 = 0 then fitsN o.n o.m else true
def OpV.enc (o : OpV) : List Nat := if o.kd.tmod 2 = 0 then numB o.n.toNat o.m.toNat else textB o.B
def encs (D : List OpV) : List Nat := D.flatMap OpV.enc
theorem encs_snoc (D : List OpV) (o : OpV) : encs (D ++ [o]) = encs D ++ o.enc := by simp [encs]
theorem encs_cons (o : OpV) (D : List OpV) : encs (o :: D) = o.enc ++ encs D := by simp [encs]
theorem OpV.even {o : OpV} (h : o.kd.tmod 2 = 0) : o.ok = fitsN o.n o.m ∧ o.enc = numB o.n.toNat o.m.toNat := by simp [OpV.ok, OpV.enc, h]
theorem OpV.odd {o : OpV} (h : ¬ o.kd.tmod 2 = 0) : o.ok = true ∧ o.enc = textB o.B := by simp [OpV.ok, OpV.enc, h]
theorem enc_le {o : OpV} (h : o.ok = true) (hB : o.B.length ≤ 400) : o.enc.length ≤ 402 := by
  unfold OpV.enc
  unfold OpV.ok at h
  split
  · rename_i h2
    rw [if_pos h2] at h
    obtain ⟨a, b, e1, e2, h1, h8, _⟩ := fits_of h
    rw [numB_length]
    omega
  · rw [textB_length]
    omega
theorem encs_le : ∀ (D : List OpV), (∀ o ∈ D, o.ok = true ∧ o.B.length ≤ 400) → (encs D).length ≤ 402 * D.length
  | [], _ => by simp [encs]
  | o :: D, h => by
    have h1 := enc_le (h o (by simp)).1 (h o (by simp)).2
    have h2 := encs_le D (fun x hx => h x (by simp [hx]))
    rw [encs_cons, List.length_append, List.length_cons]
    omega
theorem enc_lt {w : World} {o : OpV} (h : OpIs w o) : ∀ x ∈ o.enc, x < 256 := by
  unfold OpV.enc
  split
  · exact numB_lt _ _
  · exact textB_lt _ h.1.lt

section
variable {ρ : Operand → Value} {w : World} {dst : Option Tmp} {ty : TypeId} {pos : String} {aft : Array Edge} {gd : Option (Nat × Bool)} {x y z : Operand}
theorem r_fld29_0 {b : Nat} (hx : ρ x = .pointer (some ⟨b, 0, none⟩)) : (execOp ρ ⟨dst, .fieldAddr 29 x 0, ty, pos, aft, gd⟩).run Try.prog w = .ok (.value (.pointer (some ⟨b, 0, none⟩))) w := by
  go_simp
theorem r_fld29_1 {b : Nat} (hx : ρ x = .pointer (some ⟨b, 0, none⟩)) : (execOp ρ ⟨dst, .fieldAddr 29 x 1, ty, pos, aft, gd⟩).run Try.prog w = .ok (.value (.pointer (some ⟨b, 1, none⟩))) w := by
  go_simp
theorem r_fld29_2 {b : Nat} (hx : ρ x = .pointer (some ⟨b, 0, none⟩)) : (execOp ρ ⟨dst, .fieldAddr 29 x 2, ty, pos, aft, gd⟩).run Try.prog w = .ok (.value (.pointer (some ⟨b, 2, none⟩))) w := by
  go_simp
theorem r_fld29_3 {b : Nat} (hx : ρ x = .pointer (some ⟨b, 0, none⟩)) : (execOp ρ ⟨dst, .fieldAddr 29 x 3, ty, pos, aft, gd⟩).run Try.prog w = .ok (.value (.pointer (some ⟨b, 3, none⟩))) w := by
  go_simp
theorem r_ld3 {b o : Nat} {v : Value} (hx : ρ x = .pointer (some ⟨b, o, none⟩)) (hc : w.cell? ⟨b, o, none⟩ = some v) : (execOp ρ ⟨dst, .load 3 x, ty, pos, aft, gd⟩).run Try.prog w = .ok (.value v) w := by
  go_simp
theorem r_rem2 {k : Int} (hx : ρ x = .int .i64 k) (hy : ρ y = .int .i64 2) : (execOp ρ ⟨dst, .binOp .rem 3 x y 3, ty, pos, aft, gd⟩).run Try.prog w = .ok (.value (.int .i64 (k.tmod 2))) w := by
  go_simp
theorem r_call3 {f : FuncId} {u v t : Value} {t1 t2 t3 : TypeId} {fn : Func} {c : Code} (hf : Try.prog.funcs[f]? = some fn) (hn : (fn.name == "runtime.NumGoroutine") = false) (hb : fn.body = some c) (hfv : ρ (.func f) = .func (.func f) #[] #[]) (hx : ρ x = u) (hy : ρ y = v) (hz : ρ z = t) :
    (execOp ρ ⟨dst, .call { callee := .value (.func f), args := #[x, y, z], argTypes := #[t1, t2, t3] }, ty, pos, aft, gd⟩).run Try.prog w = .ok (.enter f #[u, v, t]) w := by
  have h := enters_of hf hn hb #[u, v, t] w
  simp [execOp, resolve, hfv, hx, hy, hz, Deferred.ofValue, invoke, h]
theorem r_load29 {b o : Nat} {L : List Value} (hx : ρ x = .pointer (some ⟨b, o, none⟩)) (hl : L.length = 4) (hc : Cells w b o L) : (execOp ρ ⟨dst, .load 29 x, ty, pos, aft, gd⟩).run Try.prog w = .ok (.value (.agg L.toArray)) w := by
  have h := run_loadCells_list (P := Try.prog) w ⟨b, o, none⟩ L (fun j v hj => by rw [addr_add]; exact hc j v hj)
  rw [hl] at h
  simp [execOp, Instr.loadAt, hx, Instr.sureAddr, loadVar, run_isAgg Try.agg29, run_sizeOf Try.agg29, h]
theorem r_idx22 {b off len cap : Nat} (i : Nat) {k : IntKind} (hx : ρ x = .slice (some ⟨b, off, none⟩) len cap) (hy : ρ y = .int k i) (hi : i < len) :
    (execOp ρ ⟨dst, .indexAddr 22 x y, ty, pos, aft, gd⟩).run Try.prog w = .ok (.value (.pointer (some ⟨b, off + i * 4, none⟩))) w := by
  have h0 : ¬ ((i : Int) < 0) := by omega
  have h1 : (i : Int) < (len : Int) := by omega
  go_simp
end

/-- 'for i, o := range l': the element is read into a variable of the round's own. -/
theorem aw_elem {ops : Array Oper} {Q : Exit → Act → World → Prop} {a : Act} {rest : List Oper} {w : World} {o : OpV} {b off : Nat} {d : Option Tmp} {x : Operand} {ty : TypeId} {pos : String} {aft : Array Edge} (hx : a.eval x = .pointer (some ⟨b, off, none⟩)) (hc : Cells w b off o.cells)
    (h : wpList Try.prog ops Q rest (a.put d (.agg o.cells.toArray)) w) : wpList Try.prog ops Q (⟨d, .load 29 x, ty, pos, aft, none⟩ :: rest) a w :=
  wpList_run rfl (r_load29 hx rfl hc) h

end Go.Proofs.Yteffiglfeenokaa
