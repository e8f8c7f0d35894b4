/-
  (*Dev).Write: the round of its loop: one sector more waits.
-/
import Derived.Test.YtakpkibjpjcgbaaDSplit
import Derived.Test.YtakpkibjpjcgbaaBlkB
namespace Go.Proofs.Ytakpkibjpjcgbaa.D
open Go.RowKit Go.Shelf
set_option linter.unusedSimpArgs false
set_option linter.unusedVariables false
set_option maxRecDepth 100000

theorem eval_put_ne (a : Act) (d t : Nat) (v : Value) (h : d ≠ t) : (a.put (some d) v).eval (.tmp t) = a.eval (.tmp t) := by
  simp [Act.put, Act.eval, Array.getD_eq_getD_getElem?, Array.getElem?_setIfInBounds, h]
theorem eval_put_eq (a : Act) (d : Nat) (v : Value) (h : d < a.tmps.size) : (a.put (some d) v).eval (.tmp d) = v := by
  simp [Act.put, Act.eval, Array.getD_eq_getD_getElem?, Array.getElem?_setIfInBounds, h]
theorem size_put (a : Act) (d : Option Nat) (v : Value) : (a.put d v).tmps.size = a.tmps.size := by
  cases d <;> simp [Act.put]

section
variable {ρ : Operand → Value} {w : World} {dst : Option Tmp} {ty : TypeId} {pos : String} {aft : Array Edge} {gd : Option (Nat × Bool)}
theorem r_load24 {x : Operand} {p : Addr} {v : Value} (hx : ρ x = .pointer (some p)) (hc : w.cell? p = some v) : (execOp ρ ⟨dst, .load 24 x, ty, pos, aft, gd⟩).run Try.prog w = .ok (.value v) w := by
  go_simp
theorem r_load59 {x : Operand} {p : Addr} {v : Value} (hx : ρ x = .pointer (some p)) (hc : w.cell? p = some v) : (execOp ρ ⟨dst, .load 70 x, ty, pos, aft, gd⟩).run Try.prog w = .ok (.value v) w := by
  go_simp
theorem r_load3 {x : Operand} {p : Addr} {v : Value} (hx : ρ x = .pointer (some p)) (hc : w.cell? p = some v) : (execOp ρ ⟨dst, .load 3 x, ty, pos, aft, gd⟩).run Try.prog w = .ok (.value v) w := by
  go_simp
theorem r_nilCheck {x : Operand} {p : Addr} (hx : ρ x = .pointer (some p)) : (execOp ρ ⟨dst, .nilCheck x, ty, pos, aft, gd⟩).run Try.prog w = .ok (.value (.pointer (some p))) w := by
  go_simp
theorem r_field1 {x : Operand} {b : Nat} (hx : ρ x = .pointer (some ⟨b, 0, none⟩)) : (execOp ρ ⟨dst, .fieldAddr 72 x 1, ty, pos, aft, gd⟩).run Try.prog w = .ok (.value (.pointer (some ⟨b, 1, none⟩))) w := by
  go_simp
theorem r_move {x : Operand} {v : Value} (hx : ρ x = v) : (execOp ρ ⟨dst, .move x, ty, pos, aft, gd⟩).run Try.prog w = .ok (.value v) w := by
  go_simp
theorem r_add {x y : Operand} {i j : Nat} (hx : ρ x = .int .i64 i) (hy : ρ y = .int .i64 j) (h : i + j ≤ 9223372036854775807) : (execOp ρ ⟨dst, .binOp .add 3 x y 3, ty, pos, aft, gd⟩).run Try.prog w = .ok (.value (.int .i64 ((i + j : Nat) : Int))) w := by
  have hw : IntKind.i64.wrap ((i : Int) + (j : Int)) = ((i + j : Nat) : Int) := by rw [IntKind.wrap_i64]; omega
  go_simp
theorem r_store59 {x y : Operand} {p : Addr} {ao : Option Addr} {l c : Nat} {u : Value} (hx : ρ x = .pointer (some p)) (hy : ρ y = .slice ao l c) (hc : w.cell? p = some u) (hf : w.frozen? p = false) :
    (execOp ρ ⟨dst, .store 70 x y, ty, pos, aft, gd⟩).run Try.prog w = .ok .skip (w.setCell p (.slice ao l c)) := by
  go_simp
theorem r_append {x y : Operand} {u v v' : Value} {w' : World} (hx : ρ x = u) (hy : ρ y = v) (h : (Builtin.append_ #[70, 70] ty #[u, v]).run Try.prog w = .ok v' w') :
    (execOp ρ ⟨dst, .call { callee := .builtin .append, args := #[x, y], argTypes := #[70, 70] }, ty, pos, aft, gd⟩).run Try.prog w = .ok (.value v') w' := by
  simp [execOp, resolve, invoke, builtin, hx, hy, h]
end

theorem _root_.Go.Proofs.Ytakpkibjpjcgbaa.Kept.setCell' {S : Nat → Prop} {w0 w : World} (h : Kept S w0 w) (a : Addr) (v : Value) (hg : S a.block) : Kept S w0 (w.setCell a v) :=
  h.trans (Kept.setCell (S := S) w a v hg) (fun _ _ h => h)

/-- One sector more waits: the append, and the store of the new slice. -/
theorem append_waits (W : World) (b bs n : Nat) (wv : Value) (s : DS) (hd : DevIs W b bs wv n s) (q : Nat) (M : List Value) (hM : M.length = 64) (hMb : ∀ v ∈ M, isByte v) (hq : q < n) (hlen : s.ws.length < 1000000000) (ty : TypeId) :
    ∃ ao l c W2, (Builtin.append_ #[70, 70] ty #[wv, .slice (some ⟨W.heap.size, 0, none⟩) 1 1]).run Try.prog (W.alloc (.cells (.int .i64 (q : Int) :: M).toArray 131)) = .ok (.slice ao l c) W2 ∧
      W2.cell? ⟨b, 1, none⟩ = some wv ∧ W2.frozen? ⟨b, 1, none⟩ = false ∧ Kept (foot b bs wv) W W2 ∧ W.heap.size ≤ W2.heap.size ∧
      DevIs (W2.setCell ⟨b, 1, none⟩ (.slice ao l c)) b bs (.slice ao l c) n { s with ws := s.ws ++ [(q, M)] } ∧
      Kept (foot b bs wv) W (W2.setCell ⟨b, 1, none⟩ (.slice ao l c)) ∧ (∀ k, (Value.slice ao l c).ownBlock = some k → wv.ownBlock = some k ∨ W.heap.size ≤ k) := by
  obtain ⟨i72, hi72, hz72, hs72, hb72⟩ := info_parts Try.info131
  have hk1 := Kept.alloc (fun _ => False) W (.cells (.int .i64 (q : Int) :: M).toArray 131)
  have hd1 := hd.kept hk1 (fun _ _ h => h)
  have hnew : Blk (W.alloc (.cells (.int .i64 (q : Int) :: M).toArray 131)) W.heap.size (.int .i64 (q : Int) :: M) 131 := Blk.new W _ 131
  have h1 : ∀ u ∈ (Value.int .i64 (q : Int) :: M), u.oneCell' = true := by
    intro u hu
    rcases List.mem_cons.1 hu with rfl | hu
    · rfl
    · exact (hMb u hu).one
  obtain ⟨v', W2, hrun, how, hgr, _⟩ := run_append_own (P := Try.prog) (W.alloc (.cells (.int .i64 (q : Int) :: M).toArray 131)) 0 70 ty 131 i72 _ 65 72 Try.underlying70 hi72 hz72 hs72 hb72 (by simp [Value.cells]) (by decide) wv s.ws.length (flat s.ws) hd1.hw
    ⟨W.heap.size, 0, none⟩ 1 1 (.int .i64 (q : Int) :: M) (by simp [hM]) (fun j u hj => by rw [addr_add, Nat.zero_add, hnew.cell]; exact hj) h1 (by unfold maxLen; omega) (by omega) (Nat.zero_le _)
  have hk2 := Kept.of_grown hgr
  obtain ⟨ap1, ap2, ap3⟩ := hd.apart
  have hb2 := hk2.blk hd1.hb (fun e => ap2 e)
  have hs2 := hk2.blk hd1.hs (fun e => ap3 e)
  have hkw : Kept (foot b bs wv) W W2 := (hk1.mono (T := foot b bs wv) (fun _ _ h => h.elim)).trans hk2 (fun k _ e => .inr (.inr e))
  have hown : ∃ ao l c, v' = .slice ao l c := by
    rcases how.2 with ⟨rfl, _⟩ | ⟨g, cap, cur, rfl, _⟩
    · exact ⟨_, _, _, rfl⟩
    · exact ⟨_, _, _, rfl⟩
  obtain ⟨ao, l, c, rfl⟩ := hown
  have hkk := Kept.setCell (S := fun k => k = b) W2 ⟨b, 1, none⟩ (.slice ao l c) rfl
  have hne : ∀ k, (Value.slice ao l c).ownBlock = some k → k ≠ b := by
    intro k e e2
    subst e2
    rcases how.2 with ⟨h0, _⟩ | ⟨g, cap, cur, h0, _, hg, _⟩
    · rw [h0] at e; simp [Value.ownBlock] at e
    · rw [h0] at e
      simp [Value.ownBlock] at e
      subst e
      have hgb : Blk W2 g cur.toList 131 := by unfold Blk; simpa using hg
      exact absurd rfl (hgb.ne hb2 (by decide))
  have hws : (flat (s.ws ++ [(q, M)])) = flat s.ws ++ (.int .i64 (q : Int) :: M) := by simp [flat]
  refine ⟨ao, l, c, W2, hrun, hb2.cell 1, hb2.frozen 1, hkw, Nat.le_trans hk1.size hk2.size, ?_, hkw.setCell' _ _ (.inl rfl), ?_⟩
  · refine ⟨hd.n1, hd.n2, hb2.setCell 1 _, hkk.blk hs2 (fun e => ap1 e.symm), ?_, hd.hl, hd.hB, ?_, hd.l1, hd.l2⟩
    · show World.ownsRow _ 0 131 65 _ (s.ws ++ [(q, M)]).length (flat (s.ws ++ [(q, M)]))
      rw [hws, List.length_append, List.length_singleton]
      exact ownsRow_kept how hkk (fun k e => hne k e)
    · intro p hp
      rcases List.mem_append.1 hp with hp | hp
      · exact hd.ok p hp
      · simp at hp; subst hp; exact ⟨hq, hM, hMb⟩
  · intro k e
    rcases append_block (P := Try.prog) (W.alloc (.cells (.int .i64 (q : Int) :: M).toArray 131)) 0 70 ty 131 i72 _ 65 72 Try.underlying70 hi72 hz72 hs72 hb72 wv s.ws.length (flat s.ws) hd1.hw
      ⟨W.heap.size, 0, none⟩ 1 1 (.int .i64 (q : Int) :: M) (by simp [hM]) (by decide) (fun j u hj => by rw [addr_add, Nat.zero_add, hnew.cell]; exact hj) h1 (by unfold maxLen; omega) (by omega) hrun k e with h | h
    · exact .inl h
    · exact .inr (by simp at h; omega)

end Go.Proofs.Ytakpkibjpjcgbaa.D

/-
  (*Dev).Write where it is refused.
-/
namespace Go.Proofs.Ytakpkibjpjcgbaa.D
open Go.RowKit Go.Shelf
set_option linter.unusedSimpArgs false
set_option linter.unusedVariables false
set_option maxRecDepth 100000

/-- The bytes B, as a slice that lies outside S. -/
def srcIs (w : World) (v : Value) (B : List Value) (S : Nat → Prop) : Prop :=
  ∃ ao cap, v = .slice ao B.length cap ∧ B.length ≤ cap ∧ cap ≤ maxLen ∧ (∀ x ∈ B, isByte x) ∧ (0 < B.length → ∃ sb so, ao = some ⟨sb, so, none⟩ ∧ Cells w sb so B ∧ ¬ S sb)

theorem _root_.Go.Proofs.Ytakpkibjpjcgbaa.Cells.lt {w : World} {b so : Nat} {M : List Value} (h : Cells w b so M) (h0 : 0 < M.length) : b < w.heap.size :=
  World.block_lt_of_cell? w _ (h 0 _ (List.getElem?_eq_getElem h0))

theorem srcIs.kept {w w' : World} {v : Value} {B : List Value} {S T : Nat → Prop} (h : srcIs w v B S) (hk : Kept T w w') (hT : ∀ k, k < w.heap.size → T k → S k) : srcIs w' v B S := by
  obtain ⟨ao, cap, h1, h2, h3, h4, h5⟩ := h
  refine ⟨ao, cap, h1, h2, h3, h4, fun h0 => ?_⟩
  obtain ⟨sb, so, e1, e2, e3⟩ := h5 h0
  exact ⟨sb, so, e1, hk.cells e2 (fun t => e3 (hT sb (e2.lt h0) t)), e3⟩

/-- What a refused Write answers. -/
def DS.errW (n : Nat) (s : DS) (a : Int) (B : List Value) : Int :=
  if s.off then 10 else if B.length % 64 ≠ 0 then 2 else if hasB n a ((B.length / 64 : Nat) : Int) then s.errS else 11

theorem _root_.Go.Proofs.Ytakpkibjpjcgbaa.Kept.alloc2 (S : Nat → Prop) (w : World) (o o' : Obj) : Kept S w ((w.alloc o).alloc o') := (Kept.alloc S w o).trans (Kept.alloc S _ o') (fun _ _ h => h)

set_option maxHeartbeats 1000000 in
theorem write_off (w : World) (b n : Nat) (s : DS) (F : Nat → Prop) (h : DevAt w b n s F) (a : Int) (v : Value) (ho : s.off = true) :
    Calls Try.prog 36 #[.pointer (some ⟨b, 0, none⟩), .int .i64 a, v] w fun e w' => e = .returned (.int .i64 10) ∧ DevStep w w' b n s F := by
  have hd2 := h.kept (w' := (w.alloc (.cells #[.pointer (some ⟨b, 0, none⟩)] 24)).alloc (.cells #[.int .i64 a] 3)) (Kept.alloc2 (fun _ => False) w _ _) (fun _ _ h => h)
  have hd3 := hd2
  obtain ⟨bs, wv, hd, hf⟩ := hd2
  have HR := hide (ready_at _ b bs n wv s hd)
  have HO := hide ho
  have HD := hide hd3
  clear hd hf ho hd3
  go_enter Try.func36, Try.ntmps36
  go_wp2_with (go_at_call 50; refine HR.out.mono ?_; rintro e w' ⟨rfl, rfl⟩; rw [HO.out]; simp only [if_true])
  go_ret
  exact ⟨rfl, Kept.alloc2 F w _ _, F, HD.out, fun _ h => .inl h⟩

set_option maxHeartbeats 1000000 in
theorem write_arg (w : World) (b n : Nat) (s : DS) (F : Nat → Prop) (h : DevAt w b n s F) (a : Int) (ao : Option Addr) (len cap : Nat) (hl : len ≤ 9223372036854775807) (ho : s.off = false) (hm : len % 64 ≠ 0) :
    Calls Try.prog 36 #[.pointer (some ⟨b, 0, none⟩), .int .i64 a, .slice ao len cap] w fun e w' => e = .returned (.int .i64 2) ∧ DevStep w w' b n s F := by
  have hd2 := h.kept (w' := (w.alloc (.cells #[.pointer (some ⟨b, 0, none⟩)] 24)).alloc (.cells #[.int .i64 a] 3)) (Kept.alloc2 (fun _ => False) w _ _) (fun _ _ h => h)
  have hd3 := hd2
  obtain ⟨bs, wv, hd, hf⟩ := hd2
  have HR := hide (ready_at _ b bs n wv s hd)
  have HO := hide ho
  have HD := hide hd3
  have hmi : ((len : Int) % 64 != 0) = true := by rw [bne_iff_ne]; omega
  clear hd hf ho hd3 hm
  go_enter Try.func36, Try.ntmps36
  go_wp2_with (go_at_call 50; refine HR.out.mono ?_; rintro e w' ⟨rfl, rfl⟩; rw [HO.out]; simp only [Bool.false_eq_true, if_false])
  go_ret
  exact ⟨rfl, Kept.alloc2 F w _ _, F, HD.out, fun _ h => .inl h⟩

set_option maxHeartbeats 1000000 in
theorem write_range (w : World) (b n : Nat) (s : DS) (F : Nat → Prop) (h : DevAt w b n s F) (a : Int) (ha : a ≤ 9223372036854775807) (ao : Option Addr) (m cap : Nat) (hl : 64 * m ≤ 9223372036854775807) (ho : s.off = false) (hh : hasB n a m = false) :
    Calls Try.prog 36 #[.pointer (some ⟨b, 0, none⟩), .int .i64 a, .slice ao (64 * m) cap] w fun e w' => e = .returned (.int .i64 11) ∧ DevStep w w' b n s F := by
  have hd2 := h.kept (w' := (w.alloc (.cells #[.pointer (some ⟨b, 0, none⟩)] 24)).alloc (.cells #[.int .i64 a] 3)) (Kept.alloc2 (fun _ => False) w _ _) (fun _ _ h => h)
  have hd3 := hd2
  obtain ⟨bs, wv, hd, hf⟩ := hd2
  have HR := hide (ready_at _ b bs n wv s hd)
  have HH := hide (has_at _ b bs n wv s hd a m ha)
  have HO := hide ho
  have HN := hide hh
  have HD := hide hd3
  have hmi : (((64 * m : Nat) : Int) % 64 != 0) = false := by rw [bne_eq_false_iff_eq]; omega
  have hmq : ((64 * m : Nat) : Int) / 64 = (m : Int) := by omega
  clear hd hf ho hd3 hh
  go_enter Try.func36, Try.ntmps36
  go_wp2_with (first
    | (go_at_call 50; refine HR.out.mono ?_; rintro e w' ⟨rfl, rfl⟩; rw [HO.out]; simp only [Bool.false_eq_true, if_false])
    | (go_at_call 51; refine HH.out.mono ?_; rintro e w' ⟨rfl, rfl⟩; rw [HN.out]))
  go_ret
  exact ⟨rfl, Kept.alloc2 F w _ _, F, HD.out, fun _ h => .inl h⟩

set_option maxHeartbeats 1000000 in
theorem write_limit (w : World) (b n : Nat) (s : DS) (F : Nat → Prop) (h : DevAt w b n s F) (a : Int) (ha : a ≤ 9223372036854775807) (ao : Option Addr) (m cap : Nat) (hl : 64 * m ≤ 9223372036854775807) (ho : s.off = false) (hh : hasB n a m = true) (hz : s.left = 0) (hc : s.calls < 4611686018427387904) :
    Calls Try.prog 36 #[.pointer (some ⟨b, 0, none⟩), .int .i64 a, .slice ao (64 * m) cap] w fun e w' => e = .returned (.int .i64 10) ∧ DevStep w w' b n s.spent F := by
  have hd2 := h.kept (w' := (w.alloc (.cells #[.pointer (some ⟨b, 0, none⟩)] 24)).alloc (.cells #[.int .i64 a] 3)) (Kept.alloc2 (fun _ => False) w _ _) (fun _ _ h => h)
  obtain ⟨bs, wv, hd, hf⟩ := hd2
  have HR := hide (ready_at _ b bs n wv s hd)
  have HH := hide (has_at _ b bs n wv s hd a m ha)
  have HSp := hide (spend_at _ b bs n wv s hd hc)
  have HE2 : Hid (s.errS = 10) := hide (by simp [DS.errS, hz])
  have HO := hide ho
  have HN := hide hh
  have HF := hide hf
  have hmi : (((64 * m : Nat) : Int) % 64 != 0) = false := by rw [bne_eq_false_iff_eq]; omega
  have hmq : ((64 * m : Nat) : Int) / 64 = (m : Int) := by omega
  clear hd hf ho hh hz
  go_enter Try.func36, Try.ntmps36
  go_wp2_with (first
    | (go_at_call 50; refine HR.out.mono ?_; rintro e w' ⟨rfl, rfl⟩; rw [HO.out]; simp only [Bool.false_eq_true, if_false])
    | (go_at_call 51; refine HH.out.mono ?_; rintro e w' ⟨rfl, rfl⟩; rw [HN.out])
    | (go_at_call 59; refine HSp.out.mono ?_; rintro e w1 ⟨rfl, hk1, hd1⟩; rw [HE2.out]))
  go_ret
  refine ⟨rfl, (Kept.alloc2 F w _ _).trans hk1 (fun k _ e => (HF.out k).2 (.inl e)), foot b bs wv, ⟨bs, wv, hd1, fun _ => Iff.rfl⟩, fun k hk => .inl ((HF.out k).2 hk)⟩

end Go.Proofs.Ytakpkibjpjcgbaa.D
