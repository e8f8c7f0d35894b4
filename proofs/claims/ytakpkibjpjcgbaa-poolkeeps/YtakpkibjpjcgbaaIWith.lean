/-
  With.
-/
import Derived.Test.YtakpkibjpjcgbaaICl
namespace Go.Proofs.Ytakpkibjpjcgbaa
open Go.RowKit Go.Shelf
set_option linter.unusedSimpArgs false
set_option linter.unusedVariables false
set_option maxRecDepth 100000

theorem run_arr62 {ρ : Operand → Value} {w : World} {dst : Option Tmp} {ty : TypeId} {x : Operand} {pos : String} {aft : Array Edge} {gd : Option (Nat × Bool)} {a : Option Addr} {n c : Nat} (hx : ρ x = .slice a n c) (hn : 64 ≤ n) :
    (execOp ρ ⟨dst, .sliceToArrayPointer 119 x, ty, pos, aft, gd⟩).run Try.prog w = .ok (.value (.pointer a)) w := by
  have h : ¬ n < 64 := by omega
  simp [execOp, hx, Instr.arrayAt, run_underlying Try.und62, h]
theorem run_load_cells {P : Program} {ρ : Operand → Value} {w : World} {dst : Option Tmp} {t ty : TypeId} {x : Operand} {pos : String} {aft : Array Edge} {gd : Option (Nat × Bool)} {b off n : Nat} {M : List Value}
    (ht : aggSize P t n) (hx : ρ x = .pointer (some ⟨b, off, none⟩)) (hM : M.length = n) (hc : Cells w b off M) :
    (execOp ρ ⟨dst, .load t x, ty, pos, aft, gd⟩).run P w = .ok (.value (.agg M.toArray)) w := by
  have hc := run_loadCells_list (P := P) w ⟨b, off, none⟩ M (fun j v hj => by rw [addr_add]; exact hc j v hj)
  rw [hM] at hc
  simp [execOp, Instr.loadAt, hx, Instr.sureAddr, loadVar, run_isAgg ht, run_sizeOf ht, hc]
theorem put_block {B b : List Nat} {C : List Value} {n k : Nat} (hl : B.length = 64 * n) (hk : k < n) (hb : b.length = 64) : put (BV B ++ C) (k * 64) (BV b) = BV (putB B k b) ++ C := by
  have h1 : (BV B).length = 64 * n := by rw [BV_length, hl]
  have h2 : (BV b).length = 64 := by rw [BV_length, hb]
  unfold put putB
  rw [h2, Nat.mul_comm k 64, List.take_append_of_le_length (by omega), List.drop_append_of_le_length (by omega), BV_append, BV_append, BV_take, BV_drop]
  simp
theorem withE_take {n : Nat} {l : List Wr} {k : Nat} (hk : k < l.length) (h : withE n (l.take k) = 0) : withE n l = withE n (l.drop k) := by
  have := withE_append n (l.take k) (l.drop k)
  rw [List.take_append_drop, if_pos h] at this
  exact this
theorem withE_step {n : Nat} {l : List Wr} {k : Nat} (hk : k < l.length) (h : withE n (l.take k) = 0) : withE n l = if ¬ (0 ≤ l[k].blk ∧ l[k].blk < n) then 41 else if l[k].B.length ≠ 64 then 42 else withE n (l.drop (k + 1)) := by
  rw [withE_take hk h, List.drop_eq_getElem_cons hk]
  rfl
theorem withE_take1 {n : Nat} {l : List Wr} {k : Nat} (hk : k < l.length) (h : withE n (l.take k) = 0) (h1 : 0 ≤ l[k].blk ∧ l[k].blk < n) (h2 : l[k].B.length = 64) : withE n (l.take (k + 1)) = 0 := by
  rw [List.take_add_one, withE_append, if_pos h, List.getElem?_eq_getElem hk]
  simp only [Option.toList, withE]
  rw [if_neg (by simpa using h1), if_neg (by simpa using h2)]
theorem withB_take1 {B : List Nat} {l : List Wr} {k : Nat} (hk : k < l.length) : withB B (l.take (k + 1)) = putB (withB B (l.take k)) l[k].blk.toNat l[k].B := by
  rw [List.take_add_one, withB_append, List.getElem?_eq_getElem hk]
  rfl
theorem wr_get {l : List Wv} {k : Nat} (hk : k < l.length) : (l.map Wv.wr)[k]'(by simpa using hk) = ⟨l[k].blk, l[k].B⟩ := by simp [Wv.wr]
/-- What With answers. -/
def WithIs (w' : World) (d' : Value) (n : Nat) (B : List Nat) (l : List Wr) : Prop := (withE n l = 0 → DkAt w' d' n (withB B l)) ∧ (withE n l ≠ 0 → d' = .pointer none)

end Go.Proofs.Ytakpkibjpjcgbaa
