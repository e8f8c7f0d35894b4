/-
  (*Dev).Write: the round of its loop: one sector more waits.
-/
import Derived.Test.YtapoagpkjngjpaaDSplit
import Derived.Test.YtapoagpkjngjpaaBlkB
namespace Go.Proofs.Ytapoagpkjngjpaa.D
open Go.RowKit Go.Shelf
set_option linter.unusedSimpArgs false
set_option linter.unusedVariables false
set_option maxRecDepth 100000

theorem eval_put_ne (a : Act) (d t : Nat) (v : Value) (h : d ≠ t) : (a.put (some d) v).eval (.tmp t) = a.eval (.tmp t) := by
  simp [Act.put, Act.eval, Array.getD_eq_getD_getElem?, Array.getElem?_setIfInBounds, h]
theorem eval_put_eq (a : Act) (d : Nat) (v : Value) (h : d < a.tmps.size) : (a.put (some d) v).eval (.tmp d) = v := by
  simp [Act.put, Act.eval, Array.getD_eq_getD_getElem?, Array.getElem?_setIfInBounds, h]
theorem size_put (a : Act) (d : Option Nat) (v : Value) : (a.put d v).tmps.size = a.tmps.size := by
  cases d <;> simp [Act.put]

section
variable {ρ : Operand → Value} {w : World} {dst : Option Tmp} {ty : TypeId} {pos : String} {aft : Array Edge} {gd : Option (Nat × Bool)}
theorem r_load24 {x : Operand} {p : Addr} {v : Value} (hx : ρ x = .pointer (some p)) (hc : w.cell? p = some v) : (execOp ρ ⟨dst, .load 37 x, ty, pos, aft, gd⟩).run Try.prog w = .ok (.value v) w := by
  go_simp
theorem r_load59 {x : Operand} {p : Addr} {v : Value} (hx : ρ x = .pointer (some p)) (hc : w.cell? p = some v) : (execOp ρ ⟨dst, .load 70 x, ty, pos, aft, gd⟩).run Try.prog w = .ok (.value v) w := by
  go_simp
theorem r_load3 {x : Operand} {p : Addr} {v : Value} (hx : ρ x = .pointer (some p)) (hc : w.cell? p = some v) : (execOp ρ ⟨dst, .load 3 x, ty, pos, aft, gd⟩).run Try.prog w = .ok (.value v) w := by
  go_simp
theorem r_nilCheck {x : Operand} {p : Addr} (hx : ρ x = .pointer (some p)) : (execOp ρ ⟨dst, .nilCheck x, ty, pos, aft, gd⟩).run Try.prog w = .ok (.value (.pointer (some p))) w := by
  go_simp
theorem r_field1 {x : Operand} {b : Nat} (hx : ρ x = .pointer (some ⟨b, 0, none⟩)) : (execOp ρ ⟨dst, .fieldAddr 72 x 1, ty, pos, aft, gd⟩).run Try.prog w = .ok (.value (.pointer (some ⟨b, 1, none⟩))) w := by
  go_simp
theorem r_move {x : Operand} {v : Value} (hx : ρ x = v) : (execOp ρ ⟨dst, .move x, ty, pos, aft, gd⟩).run Try.prog w = .ok (.value v) w := by
  go_simp
theorem r_add {x y : Operand} {i j : Nat} (hx : ρ x = .int .i64 i) (hy : ρ y = .int .i64 j) (h : i + j ≤ 9223372036854775807) : (execOp ρ ⟨dst, .binOp .add 3 x y 3, ty, pos, aft, gd⟩).run Try.prog w = .ok (.value (.int .i64 ((i + j : Nat) : Int))) w := by
  have hw : IntKind.i64.wrap ((i : Int) + (j : Int)) = ((i + j : Nat) : Int) := by rw [IntKind.wrap_i64]; omega
  go_simp
theorem r_store59 {x y : Operand} {p : Addr} {ao : Option Addr} {l c : Nat} {u : Value} (hx : ρ x = .pointer (some p)) (hy : ρ y = .slice ao l c) (hc : w.cell? p = some u) (hf : w.frozen? p = false) :
    (execOp ρ ⟨dst, .store 70 x y, ty, pos, aft, gd⟩).run Try.prog w = .ok .skip (w.setCell p (.slice ao l c)) := by
  go_simp
theorem r_append {x y : Operand} {u v v' : Value} {w' : World} (hx : ρ x = u) (hy : ρ y = v) (h : (Builtin.append_ #[70, 70] ty #[u, v]).run Try.prog w = .ok v' w') :
    (execOp ρ ⟨dst, .call { callee := .builtin .append, args := #[x, y], argTypes := #[70, 70] }, ty, pos, aft, gd⟩).run Try.prog w = .ok (.value v') w' := by
  simp [execOp, resolve, invoke, builtin, hx, hy, h]
end

theorem _root_.Go.Proofs.Ytapoagpkjngjpaa.Kept.setCell' {S : Nat → Prop} {w0 w : World} (h : Kept S w0 w) (a : Addr) (v : Value) (hg : S a.block) : Kept S w0 (w.setCell a v) :=
  h.trans (Kept.setCell (S := S) w a v hg) (fun _ _ h => h)

/-- One sector more waits: the append, and the store of the new slice. -/
theorem append_waits (W : World) (b bs n : Nat) (wv : Value) (s : DS) (hd : DevIs W b bs wv n s) (q : Nat) (M : List Value) (hM : M.length = 64) (hMb : ∀ v ∈ M, isByte v) (hq : q < n) (hlen : s.ws.length < 1000000000) (ty : TypeId) :
    ∃ ao l c W2, (Builtin.append_ #[70, 70] ty #[wv, .slice (some ⟨W.heap.size, 0, none⟩) 1 1]).run Try.prog (W.alloc (.cells (.int .i64 (q : Int) :: M).toArray 101)) = .ok (.slice ao l c) W2 ∧
      W2.cell? ⟨b, 1, none⟩ = some wv ∧ W2.frozen? ⟨b, 1, none⟩ = false ∧ Kept (foot b bs wv) W W2 ∧ W.heap.size ≤ W2.heap.size ∧
      DevIs (W2.setCell ⟨b, 1, none⟩ (.slice ao l c)) b bs (.slice ao l c) n { s with ws := s.ws ++ [(q, M)] } ∧
      Kept (foot b bs wv) W (W2.setCell ⟨b, 1, none⟩ (.slice ao l c)) ∧ (∀ k, (Value.slice ao l c).ownBlock = some k → wv.ownBlock = some k ∨ W.heap.size ≤ k) := by
  obtain ⟨i72, hi72, hz72, hs72, hb72⟩ := info_parts Try.info101
  have hk1 := Kept.alloc (fun _ => False) W (.cells (.int .i64 (q : Int) :: M).toArray 101)
  have hd1 := hd.kept hk1 (fun _ _ h => h)
  have hnew : Blk (W.alloc (.cells (.int .i64 (q : Int) :: M).toArray 101)) W.heap.size (.int .i64 (q : Int) :: M) 101 := Blk.new W _ 101
  have h1 : ∀ u ∈ (Value.int .i64 (q : Int) :: M), u.oneCell' = true := by
    intro u hu
    rcases List.mem_cons.1 hu with rfl | hu
    · rfl
    · exact (hMb u hu).one
  obtain ⟨v', W2, hrun, how, hgr, _⟩ := run_append_own (P := Try.prog) (W.alloc (.cells (.int .i64 (q : Int) :: M).toArray 101)) 0 70 ty 101 i72 _ 65 72 Try.underlying70 hi72 hz72 hs72 hb72 (by simp [Value.cells]) (by decide) wv s.ws.length (flat s.ws) hd1.hw
    ⟨W.heap.size, 0, none⟩ 1 1 (.int .i64 (q : Int) :: M) (by simp [hM]) (fun j u hj => by rw [addr_add, Nat.zero_add, hnew.cell]; exact hj) h1 (by unfold maxLen; omega) (by omega) (Nat.zero_le _)
  have hk2 := Kept.of_grown hgr
  obtain ⟨ap1, ap2, ap3⟩ := hd.apart
  have hb2 := hk2.blk hd1.hb (fun e => ap2 e)
  have hs2 := hk2.blk hd1.hs (fun e => ap3 e)
  have hkw : Kept (foot b bs wv) W W2 := (hk1.mono (T := foot b bs wv) (fun _ _ h => h.elim)).trans hk2 (fun k _ e => .inr (.inr e))
  have hown : ∃ ao l c, v' = .slice ao l c := by
    rcases how.2 with ⟨rfl, _⟩ | ⟨g, cap, cur, rfl, _⟩
    · exact ⟨_, _, _, rfl⟩
    · exact ⟨_, _, _, rfl⟩
  obtain ⟨ao, l, c, rfl⟩ := hown
  have hkk := Kept.setCell (S := fun k => k = b) W2 ⟨b, 1, none⟩ (.slice ao l c) rfl
  have hne : ∀ k, (Value.slice ao l c).ownBlock = some k → k ≠ b := by
    intro k e e2
    subst e2
    rcases how.2 with ⟨h0, _⟩ | ⟨g, cap, cur, h0, _, hg, _⟩
    · rw [h0] at e; simp [Value.ownBlock] at e
    · rw [h0] at e
      simp [Value.ownBlock] at e
      subst e
      have hgb : Blk W2 g cur.toList 101 := by unfold Blk; simpa using hg
      exact absurd rfl (hgb.ne hb2 (by decide))
  have hws : (flat (s.ws ++ [(q, M)])) = flat s.ws ++ (.int .i64 (q : Int) :: M) := by simp [flat]
  refine ⟨ao, l, c, W2, hrun, hb2.cell 1, hb2.frozen 1, hkw, Nat.le_trans hk1.size hk2.size, ?_, hkw.setCell' _ _ (.inl rfl), ?_⟩
  · refine ⟨hd.n1, hd.n2, hb2.setCell 1 _, hkk.blk hs2 (fun e => ap1 e.symm), ?_, hd.hl, hd.hB, ?_, hd.l1, hd.l2⟩
    · show World.ownsRow _ 0 101 65 _ (s.ws ++ [(q, M)]).length (flat (s.ws ++ [(q, M)]))
      rw [hws, List.length_append, List.length_singleton]
      exact ownsRow_kept how hkk (fun k e => hne k e)
    · intro p hp
      rcases List.mem_append.1 hp with hp | hp
      · exact hd.ok p hp
      · simp at hp; subst hp; exact ⟨hq, hM, hMb⟩
  · intro k e
    rcases append_block (P := Try.prog) (W.alloc (.cells (.int .i64 (q : Int) :: M).toArray 101)) 0 70 ty 101 i72 _ 65 72 Try.underlying70 hi72 hz72 hs72 hb72 wv s.ws.length (flat s.ws) hd1.hw
      ⟨W.heap.size, 0, none⟩ 1 1 (.int .i64 (q : Int) :: M) (by simp [hM]) (by decide) (fun j u hj => by rw [addr_add, Nat.zero_add, hnew.cell]; exact hj) h1 (by unfold maxLen; omega) (by omega) hrun k e with h | h
    · exact .inl h
    · exact .inr (by simp at h; omega)

end Go.Proofs.Ytapoagpkjngjpaa.D
