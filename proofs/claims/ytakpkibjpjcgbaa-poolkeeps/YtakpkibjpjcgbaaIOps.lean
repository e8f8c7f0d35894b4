/-
  Operations on disks, as regions that draw their order meet them; ints that are appended.
-/
import Derived.Test.YtakpkibjpjcgbaaIWith
namespace Go.Proofs.Ytakpkibjpjcgbaa
open Go.RowKit Go.Shelf
set_option linter.unusedSimpArgs false
set_option linter.unusedVariables false
set_option maxRecDepth 100000

theorem aw_push {P : Program} {ops : Array Oper} {Q : Exit → Act → World → Prop} {a : Act} {w : World} {rest : List Oper} {d1 d2 : Nat} {t ty1 ty2 e : TypeId} {pos1 pos2 : String} {aft1 aft2 : Array Edge} {x y : Operand} {i : TypeInfo} {z : Value} {bytes : Nat} {v o : Value} {n : Nat} {xs : List Value}
    (ht : P.underlying t = some (.slice e)) (hi : P.info? e = some i) (hz : i.zero = some z) (hs : i.size = 1) (hb : i.bytes = bytes) (hzc : z.cells.size = 1) (hby : bytes ≤ 1000) (hx : a.eval x = v) (hv : v.cells = #[v]) (hv1 : v.oneCell' = true)
    (hy : (a.put (some d1) (.slice (some ⟨w.heap.size, 0, none⟩) 1 1)).eval y = o) (hd : (a.put (some d1) (.slice (some ⟨w.heap.size, 0, none⟩) 1 1)).eval (.tmp d1) = .slice (some ⟨w.heap.size, 0, none⟩) 1 1) (ho : w.ownsRow 0 e 1 o n xs) (hl : n + 1 ≤ 100000000)
    (h : ∀ o' w', w'.ownsRow 0 e 1 o' (n + 1) (xs ++ [v]) → Kept (fun k => o.ownBlock = some k) w w' → (∀ k, o'.ownBlock = some k → o.ownBlock = some k ∨ w.heap.size ≤ k) → wpList P ops Q rest ((a.put (some d1) (.slice (some ⟨w.heap.size, 0, none⟩) 1 1)).put (some d2) o') w') :
    wpList P ops Q (⟨some d1, .buildSlice t 1 #[(0, x)], ty1, pos1, aft1, none⟩ :: ⟨some d2, .call { callee := .builtin .append, args := #[y, .tmp d1], argTypes := #[t, t] }, ty2, pos2, aft2, none⟩ :: rest) a w := by
  refine wpList_run rfl (run_bs1 ht hi hz hs [v] rfl (by simp) (by simpa using hv) (by simp [hx])) ?_
  have hbA := Blk.new w [v] e
  have hkA : Kept (fun _ => False) w (w.alloc (.cells [v].toArray e)) := Kept.alloc _ _ _
  have hszA : (w.alloc (.cells [v].toArray e)).heap.size = w.heap.size + 1 := by simp
  generalize w.alloc (.cells [v].toArray e) = A1 at hbA hkA hszA
  obtain ⟨o', A2, hr, h2, h3, h5⟩ := append_row (P := P) (ty := ty2) (u := .slice (some ⟨w.heap.size, 0, none⟩) 1 1) (vs := [v]) ht hi hz hs hb hzc hby (ownsRow_kept ho hkA (fun _ _ h => h)) ⟨_, 1, rfl, by simp, fun _ => ⟨_, 0, rfl, by have := hbA.cells 0 1; simpa using this⟩, fun h => by cases h⟩ (by simpa using hv1) (by simp; omega)
  refine wpList_run rfl (r_app hy hd hr) ?_
  refine h o' A2 (by simpa using h2) ((hkA.mono (T := fun k => o.ownBlock = some k) (fun _ _ h => h.elim)).trans h3 (fun _ _ h => h)) (fun k hk => ?_)
  rcases h5 with h' | h'
  · rw [h'] at hk; exact .inl hk
  · rw [h'] at hk; cases hk; exact .inr (by omega)
theorem stop_bs1 {P : Program} {ops : Array Oper} {Q : Exit → Act → World → Prop} {a : Act} {w : World} {rest : List Oper} {dst : Option Tmp} {ty : TypeId} {pos : String} {aft : Array Edge} {x : Operand} (t : TypeId) (h : Hid (wpList P ops Q (⟨dst, .buildSlice t 1 #[(0, x)], ty, pos, aft, none⟩ :: rest) a w)) : wpList P ops Q (⟨dst, .buildSlice t 1 #[(0, x)], ty, pos, aft, none⟩ :: rest) a w := h.out

def IV (L : List Nat) : List Value := L.map fun k : Nat => .int .i64 (k : Int)
theorem IV_append (a b : List Nat) : IV (a ++ b) = IV a ++ IV b := by simp [IV]
theorem IV_length (a : List Nat) : (IV a).length = a.length := by simp [IV]
/-- An own slice of ints in the making. -/
def Gath (W wr : World) (o : Value) (ys : List Nat) : Prop := wr.ownsRow 0 3 1 o ys.length (IV ys) ∧ (∀ b, o.ownBlock = some b → W.heap.size ≤ b) ∧ Kept (fun _ => False) W wr
theorem Gath.nil (W wr : World) (h : Kept (fun _ => False) W wr) : Gath W wr (.slice none 0 0) [] := ⟨World.ownsRow_nil _ _ _ _, fun b h => by simp [Value.ownBlock] at h, h⟩
theorem Gath.push {W wr w' : World} {o o' : Value} {ys : List Nat} {x : Nat} (h : Gath W wr o ys) (h1 : w'.ownsRow 0 3 1 o' (ys.length + 1) (IV ys ++ [.int .i64 x])) (h2 : Kept (fun k => o.ownBlock = some k) wr w') (h3 : ∀ k, o'.ownBlock = some k → o.ownBlock = some k ∨ wr.heap.size ≤ k) : Gath W w' o' (ys ++ [x]) := by
  refine ⟨by simpa [IV] using h1, fun b hb => ?_, h.2.2.trans h2 (fun k hk h' => ?_)⟩
  · rcases h3 b hb with h4 | h4
    · exact h.2.1 b h4
    · exact Nat.le_trans h.2.2.size h4
  · have := h.2.1 k h'
    omega
theorem Gath.kept {W wr w' : World} {o : Value} {ys : List Nat} (h : Gath W wr o ys) (hk : Kept (fun _ => False) wr w') : Gath W w' o ys := ⟨ownsRow_kept h.1 hk (fun _ _ h => h), h.2.1, h.2.2.trans hk (fun _ _ h => h)⟩
theorem Gath.src {W wr : World} {o : Value} {ys : List Nat} (h : Gath W wr o ys) : SrcV wr o (IV ys) := by
  have := h.1
  rw [← IV_length] at this
  exact ownsRow_src this

theorem srcv_int {w : World} {oa : Option Addr} {n c k : Nat} {ks : List Nat} (h : SrcV w (.slice oa n c) (IV ks)) (hk : k < ks.length) : ∃ gg gf, oa = some ⟨gg, gf, none⟩ ∧ w.cell? ⟨gg, gf + k, none⟩ = some (.int .i64 (ks[k] : Nat)) := by
  obtain ⟨ao, cap, e, _, hc, _⟩ := h
  simp only [Value.slice.injEq] at e
  obtain ⟨rfl, -, rfl⟩ := e
  obtain ⟨gg, gf, rfl, hcc⟩ := hc (by rw [IV_length]; omega)
  exact ⟨gg, gf, rfl, hcc k _ (by simp [IV, hk])⟩


section
variable {ρ : Operand → Value} {w : World} {dst : Option Tmp} {ty : TypeId} {pos : String} {aft : Array Edge} {gd : Option (Nat × Bool)} {x y z : Operand}
theorem r_nilChk {a : Addr} (hx : ρ x = .pointer (some a)) : (execOp ρ ⟨dst, .nilCheck x, ty, pos, aft, gd⟩).run Try.prog w = .ok (.value (.pointer (some a))) w := by
  go_simp
theorem r_f58 {b : Nat} (hx : ρ x = .pointer (some ⟨b, 0, none⟩)) : (execOp ρ ⟨dst, .fieldAddr 118 x 0, ty, pos, aft, gd⟩).run Try.prog w = .ok (.value (.pointer (some ⟨b, 0, none⟩))) w := by
  go_simp
theorem r_ld56 {b : Nat} {v : Value} (hx : ρ x = .pointer (some ⟨b, 0, none⟩)) (hb : Blk w b [v] 118) : (execOp ρ ⟨dst, .load 116 x, ty, pos, aft, gd⟩).run Try.prog w = .ok (.value v) w := by
  have hc : w.cell? ⟨b, 0, none⟩ = some v := hb.cell 0
  go_simp
theorem r_ix56 {b len cap : Nat} (i : Nat) (hx : ρ x = .slice (some ⟨b, 0, none⟩) len cap) (hy : ρ y = .int .i64 i) (hi : i < len) :
    (execOp ρ ⟨dst, .indexAddr 116 x y, ty, pos, aft, gd⟩).run Try.prog w = .ok (.value (.pointer (some ⟨b, 64 * i, none⟩))) w := by
  have h1 : (i : Int) < len := by omega
  rw [Nat.mul_comm]
  go_simp
theorem r_max3 {p q r : Int} (hx : ρ x = .int .i64 p) (hy : ρ y = .int .i64 q) (hr : max p q = r) : (execOp ρ ⟨dst, .call { callee := .builtin .max, args := #[x, y], argTypes := #[3, 3] }, ty, pos, aft, gd⟩).run Try.prog w = .ok (.value (.int .i64 r)) w := by
  subst hr
  by_cases h : p < q
  · go_simp
    omega
  · go_simp
    omega
theorem r_min3 {p q r : Int} (hx : ρ x = .int .i64 p) (hy : ρ y = .int .i64 q) (hr : min p q = r) : (execOp ρ ⟨dst, .call { callee := .builtin .min, args := #[x, y], argTypes := #[3, 3] }, ty, pos, aft, gd⟩).run Try.prog w = .ok (.value (.int .i64 r)) w := by
  subst hr
  by_cases h : p < q
  · go_simp
    omega
  · go_simp
    omega
/-- A block is read. -/
theorem r_ld62 {g n k : Nat} {B : List Nat} {C : List Value} (hx : ρ x = .pointer (some ⟨g, 64 * k, none⟩)) (hb : Blk w g (BV B ++ C) 119) (hl : B.length = 64 * n) (hk : k < n) :
    (execOp ρ ⟨dst, .load 119 x, ty, pos, aft, gd⟩).run Try.prog w = .ok (.value (.agg (BV (getB B k)).toArray)) w := by
  have hc := hb.cells (64 * k) 64
  rw [BV_block hl hk] at hc
  exact run_load_cells Try.agg119 hx (by rw [BV_length, getB_len hl hk]) hc
end
theorem run_part5 (w : World) (A : List Nat) (j : Nat) (hj : j < A.length) : (part 5 (BV A).toArray (j * 1)).run Try.prog w = .ok (.int .u8 (A[j] : Nat)) w := by
  have h : (BV A).toArray[j * 1]? = some (.int .u8 (A[j] : Nat)) := by
    rw [Nat.mul_one, List.getElem?_toArray, BV_get A j hj]
  unfold part
  simp [isAgg, run_underlying Try.underlying5, h]
  rw [Nat.mul_one, List.getElem?_toArray] at h
  simp [h]
theorem run_eq62 (d : Nat) (w : World) (A B : List Nat) (hA : A.length = 64) (hB : B.length = 64) : (Op.equalIn (d + 2) 119 (.agg (BV A).toArray) (.agg (BV B).toArray)).run Try.prog w = .ok (decide (A = B)) w := by
  obtain ⟨i0, hi0, hz0, hs0, hb0⟩ := info_parts Try.info5
  have hc5 : Try.prog.cellsOf 5 = 1 := by kernel_rfl
  rw [run_equalIn_array w (d + 1) _ _ Try.und62 hi0, hc5]
  have key : ∀ (js : List Nat), (∀ j ∈ js, j < 64) → (Op.eqItems (d + 1) 5 1 (BV A).toArray (BV B).toArray js).run Try.prog w = .ok (decide (∀ j ∈ js, A[j]? = B[j]?)) w := by
    intro js
    induction js with
    | nil => intro _; simp [Op.eqItems]
    | cons j js ih =>
      intro h
      have hj := h j (by simp)
      have ih := ih (fun k hk => h k (by simp [hk]))
      simp only [Op.eqItems, Sem.run_bind, run_part5 w A j (by omega), run_part5 w B j (by omega), Result.andThen_ok, run_equalIn_int w d 5 .u8 .u8 _ _ Try.underlying5]
      by_cases he : A[j] = B[j]
      · simp [he, ih, hA, hB, hj]
      · have : ¬ ((A[j] : Int) = (B[j] : Int)) := by omega
        simp [he, this, hA, hB, hj]
  rw [key _ (by simp)]
  congr 1
  apply decide_eq_decide.2
  constructor
  · intro h
    apply List.ext_getElem?
    intro i
    by_cases hi : i < 64
    · exact h i (by simpa using hi)
    · rw [List.getElem?_eq_none (by omega), List.getElem?_eq_none (by omega)]
  · rintro rfl
    simp
theorem r_neq62 {ρ : Operand → Value} {w : World} {dst : Option Tmp} {ty : TypeId} {x y : Operand} {pos : String} {aft : Array Edge} {gd : Option (Nat × Bool)} {A B : List Nat} (hx : ρ x = .agg (BV A).toArray) (hy : ρ y = .agg (BV B).toArray) (hA : A.length = 64) (hB : B.length = 64) {r : Bool} (hr : (!decide (A = B)) = r) :
    (execOp ρ ⟨dst, .binOp .neq 119 x y 119, ty, pos, aft, gd⟩).run Try.prog w = .ok (.value (.bool r)) w := by
  have hm : Try.prog.eqGuardType Try.prog.depth 119 = false := by kernel_rfl
  have h1 := run_neq_struct (P := Try.prog) w 119 (BV A).toArray (BV B).toArray
  rw [run_eq62 9998 w A B hA hB] at h1
  simp only [Result.andThen_ok] at h1
  subst hr
  have h2 := run_eqGuard_agg (P := Try.prog) w .neq 119 x y (BV A).toArray (BV B).toArray hm
  simp only [execOp, hx, hy]
  simp [h1, h2]
end Go.Proofs.Ytakpkibjpjcgbaa

/-
  Diff, Same, of package image.
-/
namespace Go.Proofs.Ytakpkibjpjcgbaa
open Go.RowKit Go.Shelf
set_option linter.unusedSimpArgs false
set_option linter.unusedVariables false
set_option maxRecDepth 100000

end Go.Proofs.Ytakpkibjpjcgbaa
