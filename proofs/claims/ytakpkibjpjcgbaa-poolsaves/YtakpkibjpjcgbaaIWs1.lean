/-
  Single writes in a list of their own; operations under a guard.
-/
import Derived.Test.YtakpkibjpjcgbaaIBytes
namespace Go.Proofs.Ytakpkibjpjcgbaa
open Go.RowKit Go.Shelf
set_option linter.unusedSimpArgs false
set_option linter.unusedVariables false
set_option maxRecDepth 100000

section
variable {P : Program} {ops : Array Oper} {Q : Exit → Act → World → Prop} {a : Act} {w w' : World} {rest : List Oper} {o : Oper} {v : Value} {dst : Option Tmp} {ty : TypeId} {pos : String} {aft : Array Edge} {gd : Option (Nat × Bool)} {x y : Operand}
theorem wpList_runG (hg : Region.wanted o (yielded ops a.tmps) = true) (hr : (execOp a.eval o).run P w = .ok (.value v) w') (h : wpList P ops Q rest (a.put o.dst v) w') : wpList P ops Q (o :: rest) a w :=
  wpList_step fun K hK => by rw [if_pos hg]; unfold Oper.wp; rw [hr]; exact hK _ _ h
theorem stop_convertG (t u : TypeId) (h : Hid (wpList P ops Q (⟨dst, .convert t u x, ty, pos, aft, gd⟩ :: rest) a w)) : wpList P ops Q (⟨dst, .convert t u x, ty, pos, aft, gd⟩ :: rest) a w := h.out
/-- One write, in a list of its own. -/
theorem aw_ws1 {ty2 : TypeId} {pos2 : String} {aft2 : Array Edge} {d1 d2 : Nat} (p : Int) (s : Sl) (B : List Nat) (hs : Src w s.v B) (hx : a.eval x = .int .i64 p) (hy : a.eval y = .slice s.a s.n s.c) (hd : (a.put (some d1) (.agg #[.int .i64 p, .slice s.a s.n s.c])).eval (.tmp d1) = .agg #[.int .i64 p, .slice s.a s.n s.c])
    (h : ∀ w' sw, sw = .slice (some ⟨w.heap.size, 0, none⟩) 1 1 → WsAt w' sw [⟨p, s, B⟩] → Kept (fun _ => False) w w' → wpList Try.prog ops Q rest ((a.put (some d1) (.agg #[.int .i64 p, .slice s.a s.n s.c])).put (some d2) (.slice (some ⟨w.heap.size, 0, none⟩) 1 1)) w') :
    wpList Try.prog ops Q (⟨some d1, .build 68 #[(0, x), (1, y)], ty, pos, aft, none⟩ :: ⟨some d2, .buildSlice 51 1 #[(0, .tmp d1)], ty2, pos2, aft2, none⟩ :: rest) a w := by
  obtain ⟨i0, hi0, hz0, hs0, hb0⟩ := info_parts Try.info68
  refine wpList_run rfl (run_build_two (o1 := 0) (s1 := 1) (o2 := 1) (s2 := 1) (M1 := [.int .i64 p]) (M2 := [.slice s.a s.n s.c]) hi0 hz0 Try.underlying68 (by kernel_rfl) hx hy rfl rfl rfl rfl (by simp [Value.cells]) (by simp [Value.cells])) ?_
  have e : (put (put (Value.cells (.agg #[.int .i64 0, .slice none 0 0])).toList 0 [.int .i64 p]) 1 [.slice s.a s.n s.c]).toArray = #[.int .i64 p, .slice s.a s.n s.c] := by simp [put, Value.cells]
  rw [e]
  refine wpList_run rfl (run_buildSlice_one (M := [.int .i64 p, .slice s.a s.n s.c]) Try.underlying51 hi0 hz0 hs0 (by simp) (by simp) (.inl hd)) ?_
  have hb := Blk.new w [.int .i64 p, .slice s.a s.n s.c] 68
  have hk : Kept (fun _ => False) w (w.alloc (.cells [.int .i64 p, .slice s.a s.n s.c].toArray 68)) := Kept.alloc _ _ _
  refine h _ _ rfl ⟨⟨_, 1, rfl, Nat.le_refl _, fun _ => ⟨_, 0, rfl, ?_⟩⟩, ?_, by simp⟩ hk
  · have := hb.cells 0 2
    simpa [encE, Wv.ent] using this
  · intro x hx
    simp at hx
    subst hx
    exact hs.kept hk
end
theorem run_slice_hi {P : Program} {ρ : Operand → Value} {w : World} {dst : Option Tmp} {t ty elem : TypeId} {x hi : Operand} {pos : String} {aft : Array Edge} {gd : Option (Nat × Bool)} {i : TypeInfo} {b off len cap : Nat} {k : IntKind}
    (ht : P.underlying t = some (.slice elem)) (hi' : P.info? elem = some i) (hx : ρ x = .slice (some ⟨b, off, none⟩) len cap) (h : Nat) (hh : ρ hi = .int k h) (hl : h ≤ cap) (h0 : 0 < cap) :
    (execOp ρ ⟨dst, .slice t x none (some hi) none, ty, pos, aft, gd⟩).run P w = .ok (.value (.slice (some ⟨b, off, none⟩) h cap)) w := by
  have h2 : (0 : Int) ≤ (h : Int) ∧ (h : Int) ≤ (cap : Int) := by omega
  have h3 : ¬ cap = 0 := by omega
  simp [execOp, Instr.sliceAt, run_underlying ht, Instr.slice, hx, hh, Instr.sliceBounds, Instr.sliceBound, asIntOf, h2, hl, sizeOf, typeInfo, hi', h3, addr_add]

end Go.Proofs.Ytakpkibjpjcgbaa
