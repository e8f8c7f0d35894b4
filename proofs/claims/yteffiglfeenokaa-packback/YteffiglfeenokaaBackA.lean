/-
  PackBack's list of what was written.
-/
import Derived.Test.YteffiglfeenokaaPOps
namespace Go.Proofs.Yteffiglfeenokaa
open Go.RowKit Go.Shelf
set_option linter.unusedSimpArgs false
set_option linter.unusedVariables false

def flatV (D : List OpV) : List Value := D.flatMap OpV.cells
theorem flatV_length : ∀ (D : List OpV), (flatV D).length = D.length * 4
  | [] => rfl
  | o :: D => by
    have := flatV_length D
    simp only [flatV, List.flatMap_cons, List.length_append, OpV.cells_length, List.length_cons] at this ⊢
    omega
theorem flatV_snoc (D : List OpV) (o : OpV) : flatV (D ++ [o]) = flatV D ++ o.cells := by simp [flatV]
theorem flatV_at : ∀ (D : List OpV) (k : Nat) (hk : k < D.length) (j : Nat) (v : Value), D[k].cells[j]? = some v → (flatV D)[k * 4 + j]? = some v
  | o :: D, 0, hk, j, v, h => by
    have hj : j < o.cells.length := (List.getElem?_eq_some_iff.1 h).1
    simp only [flatV, List.flatMap_cons, Nat.zero_mul, Nat.zero_add]
    rw [List.getElem?_append_left hj]
    exact h
  | o :: D, k + 1, hk, j, v, h => by
    have ih := flatV_at D k (by simpa using hk) j v (by simpa using h)
    simp only [flatV, List.flatMap_cons] at ih ⊢
    rw [List.getElem?_append_right (by rw [OpV.cells_length]; omega), OpV.cells_length, show (k + 1) * 4 + j - 4 = k * 4 + j by omega]
    exact ih

/-- A list of operations of one's own. -/
def Done (w : World) (base : Nat) (v : Value) (D : List OpV) : Prop := w.ownsRow base 29 4 v D.length (flatV D)
theorem Done.kept {w w' : World} {base : Nat} {v : Value} {D : List OpV} {S : Nat → Prop} (h : Done w base v D) (hk : Kept S w w') (hn : ∀ k, v.ownBlock = some k → ¬ S k) : Done w' base v D := by
  obtain ⟨h1, h2⟩ := h
  refine ⟨h1, ?_⟩
  rcases h2 with h2 | ⟨g, cap, cur, rfl, hb, hg, hr⟩
  · exact .inl h2
  · exact .inr ⟨g, cap, cur, rfl, hb, (hk.block g (Array.getElem?_eq_some_iff.1 hg).1 (hn g rfl)).trans hg, hr⟩
theorem Done.blk_ne {w : World} {base : Nat} {v : Value} {D : List OpV} {b : Nat} {L : List Value} {t : TypeId} (h : Done w base v D) (hb : Blk w b L t) (ht : t ≠ 29) : v.ownBlock ≠ some b := by
  intro e
  rcases h.2 with ⟨rfl, _⟩ | ⟨g, cap, cur, rfl, _, hg, _⟩
  · simp [Value.ownBlock] at e
  · simp [Value.ownBlock] at e
    subst e
    unfold Blk at hb
    rw [hg] at hb
    simp at hb
    exact ht hb.2.symm
theorem Done.slice {w : World} {base : Nat} {v : Value} {D : List OpV} (h : Done w base v D) : ∃ bo c, v = .slice bo D.length c := by
  rcases h.2 with ⟨rfl, h0⟩ | ⟨g, cap, cur, rfl, _⟩
  · exact ⟨none, 0, by rw [h0]⟩
  · exact ⟨_, _, rfl⟩
theorem Done.elem {w : World} {base : Nat} {bo : Option Addr} {n c : Nat} {D : List OpV} (h : Done w base (.slice bo n c) D) (k : Nat) (hk : k < D.length) : ∃ g, bo = some ⟨g, 0, none⟩ ∧ Cells w g (k * 4) D[k].cells := by
  rcases h.2 with ⟨e, h0⟩ | ⟨g, cap, cur, e, _⟩
  · omega
  · cases e
    refine ⟨g, rfl, ?_⟩
    intro j v hj
    have h1 := World.ownsRow.cells h (g := g) rfl _ v (flatV_at D k hk j v hj)
    rw [addr_add, Nat.zero_add] at h1
    exact h1
/-- The blocks of a pen's slice and of such a list are not the same. -/
theorem own_done_ne {w : World} {b1 b2 : Nat} {u v : Value} {A : List Nat} {D : List OpV} (ho : Own w b1 u A) (hd : Done w b2 v D) : ∀ k, u.ownBlock = some k → v.ownBlock ≠ some k := by
  intro k hk
  rcases ho.1.2 with ⟨rfl, _⟩ | ⟨g, cap, cur, rfl, _, hg, _⟩
  · simp [Value.ownBlock] at hk
  · simp [Value.ownBlock] at hk
    subst hk
    exact hd.blk_ne (L := cur.toList) (t := 5) (by unfold Blk; simpa using hg) (by decide)

structure Bk (w0 w : World) (p : Nat) (u dv : Value) (A : List Nat) (D : List OpV) : Prop where
  low : w0.heap.size ≤ p
  kept : Kept (fun _ => False) w0 w
  pen : PenAt w p u A
  new : ∀ k, u.ownBlock = some k → w0.heap.size ≤ k
  done : Done w w0.heap.size dv D
  each : ∀ o ∈ D, o.ok = true ∧ o.B.length ≤ 400 ∧ OpIs w0 o
theorem Bk.same {w0 w w' : World} {p : Nat} {u dv : Value} {A : List Nat} {D : List OpV} (h : Bk w0 w p u dv A D) (hk : Kept (fun _ => False) w w') : Bk w0 w' p u dv A D :=
  ⟨h.low, h.kept.trans hk (fun _ _ h => h), h.pen.kept hk (fun h => h) (fun _ _ h => h), h.new, h.done.kept hk (fun _ _ h => h), h.each⟩
theorem Bk.len {w0 w : World} {p : Nat} {u dv : Value} {A : List Nat} {D : List OpV} (h : Bk w0 w p u dv A D) : (encs D).length ≤ 402 * D.length := encs_le D (fun o ho => ⟨(h.each o ho).1, (h.each o ho).2.1⟩)
/-- Behind a pen's call. -/
theorem Bk.penned {w0 w w' : World} {p : Nat} {u u' dv : Value} {A A' : List Nat} {D : List OpV} (h : Bk w0 w p u dv A D) (hp : PenAt w' p u' A') (hk : Kept (penS p u) w w') (hm : moved w u u') : Bk w0 w' p u' dv A' D := by
  refine ⟨h.low, h.kept.trans hk (fun i hi hs => ?_), hp, fun k hk => ?_, h.done.kept hk (fun k hk hs => ?_), h.each⟩
  · rcases hs with hs | hs
    · have := h.low; omega
    · have := h.new i hs; omega
  · rcases hm k hk with h1 | h1
    · exact h.new k h1
    · have := h.kept.size; omega
  · rcases hs with hs | hs
    · exact h.done.blk_ne h.pen.1 (by decide) (by rw [← hs]; exact hk)
    · exact own_done_ne h.pen.2 h.done k hs hk
theorem Bk.penned_kept {w0 w w' : World} {p : Nat} {u dv : Value} {A : List Nat} {D : List OpV} (h : Bk w0 w p u dv A D) (hk : Kept (penS p u) w w') : Kept (fun _ => False) w0 w' :=
  h.kept.trans hk (fun i hi hs => by
    rcases hs with hs | hs
    · have := h.low; omega
    · have := h.new i hs; omega)
/-- The round's own variable stays. -/
theorem Bk.var {w0 w w' : World} {p : Nat} {u dv : Value} {A : List Nat} {D : List OpV} {b : Nat} {M : List Value} (h : Bk w0 w p u dv A D) (hk : Kept (penS p u) w w') (hb : Blk w b M 29) : Blk w' b M 29 :=
  hk.blk hb (fun hs => by
    rcases hs with hs | hs
    · exact hb.ne h.pen.1 (by decide) hs
    · exact h.pen.2.blk_ne hb (by decide) hs)

theorem built_one {ρ : Operand → Value} {w : World} {dst : Option Tmp} {ty : TypeId} {pos : String} {aft : Array Edge} {gd : Option (Nat × Bool)} {x : Operand} {o : OpV} (hx : ρ x = .agg o.cells.toArray) :
    (execOp ρ ⟨dst, .buildSlice 22 1 #[(0, x)], ty, pos, aft, gd⟩).run Try.prog w = .ok (.value (.slice (some ⟨w.heap.size, 0, none⟩) 1 1)) (w.alloc (.cells o.cells.toArray 29)) := by
  obtain ⟨i, hi, hz, hs, hb⟩ := info_parts Try.info29
  exact run_buildSlice_one Try.underlying22 hi hz hs (by rw [OpV.cells_length]; decide) (by rw [OpV.cells_length]; decide) (.inl hx)
theorem built_none {ρ : Operand → Value} {w : World} {dst : Option Tmp} {ty : TypeId} {pos : String} {aft : Array Edge} {gd : Option (Nat × Bool)} :
    (execOp ρ ⟨dst, .buildSlice 22 0 #[], ty, pos, aft, gd⟩).run Try.prog w = .ok (.value (.slice (some ⟨w.heap.size, 0, none⟩) 0 0)) (w.alloc (.cells #[] 29)) := by
  obtain ⟨i, hi, hz, hs, hb⟩ := info_parts Try.info29
  simp [execOp, Instr.buildSlice, run_underlying Try.underlying22, sizeOf, typeInfo, hi, hs, fill_nil, newRow]
  rw [show Array.range 0 = #[] by simp [Array.range]]
  simp

/-- done = append(done, o). -/
theorem Bk.add {w0 w : World} {p : Nat} {u dv : Value} {A : List Nat} {D : List OpV} {o : OpV} (h : Bk w0 w p u dv A D) (h60 : D.length ≤ 60) {g : Nat} (hg : Blk w g o.cells 29) (ho : o.ok = true ∧ o.B.length ≤ 400 ∧ OpIs w0 o) (ty : TypeId) :
    ∃ dv' w', (Builtin.append_ #[22, 22] ty #[dv, .slice (some ⟨g, 0, none⟩) 1 1]).run Try.prog w = .ok dv' w' ∧ Bk w0 w' p u dv' A (D ++ [o]) := by
  obtain ⟨i, hi, hz, hs, hb⟩ := info_parts Try.info29
  obtain ⟨v', w', hr, h2, h3, _, _⟩ := run_append_own_at (P := Try.prog) w w0.heap.size 22 ty 29 i _ 4 48 Try.underlying22 hi hz hs hb rfl (by decide) dv D.length (flatV D) h.done ⟨g, 0, none⟩ 1 1 o.cells rfl (fun j v hj => by rw [addr_add, Nat.zero_add, hg.cell]; exact hj) ho.2.2.one (by unfold maxLen; omega) (by omega) h.kept.size
  have hk := Kept.of_grown h3
  refine ⟨v', w', hr, h.low, h.kept.trans hk (fun i _ e => absurd ((h.done.lt i e).1) (by omega)), h.pen.kept hk (fun e => h.done.blk_ne h.pen.1 (by decide) e) (fun k hk e => own_done_ne h.pen.2 h.done k hk e), h.new, ?_, ?_⟩
  · unfold Done
    rw [flatV_snoc, List.length_append]
    exact h2
  · intro x hx
    rcases List.mem_append.1 hx with hx | hx
    · exact h.each x hx
    · simp at hx
      subst hx
      exact ho
theorem r_append22 {ρ : Operand → Value} {w w' : World} {dst : Option Tmp} {ty : TypeId} {pos : String} {aft : Array Edge} {gd : Option (Nat × Bool)} {x y : Operand} {u v v' : Value} (hx : ρ x = u) (hy : ρ y = v) (h : (Builtin.append_ #[22, 22] ty #[u, v]).run Try.prog w = .ok v' w') :
    (execOp ρ ⟨dst, .call { callee := .builtin .append, args := #[x, y], argTypes := #[22, 22] }, ty, pos, aft, gd⟩).run Try.prog w = .ok (.value v') w' := by
  simp [execOp, resolve, invoke, builtin, hx, hy, h]

/-- A scan beside the list. -/
structure Sc (w0 w : World) (s : Nat) (v dv : Value) (D : List OpV) (B : List Nat) : Prop where
  low : w0.heap.size ≤ s
  kept : Kept (fun _ => False) w0 w
  scan : ScanAt w s v B 0
  done : Done w w0.heap.size dv D
theorem Sc.same {w0 w w' : World} {s : Nat} {v dv : Value} {D : List OpV} {B : List Nat} (h : Sc w0 w s v dv D B) (hk : Kept (fun _ => False) w w') : Sc w0 w' s v dv D B :=
  ⟨h.low, h.kept.trans hk (fun _ _ h => h), h.scan.kept hk, h.done.kept hk (fun _ _ h => h)⟩
theorem Sc.next {w0 w w' : World} {s : Nat} {v v' dv : Value} {D : List OpV} {B C : List Nat} (h : Sc w0 w s v dv D B) (hs : ScanAt w' s v' C 0) (hk : Kept (fun k => k = s) w w') : Sc w0 w' s v' dv D C :=
  ⟨h.low, h.kept.trans hk (fun i hi e => by have := h.low; omega), hs, h.done.kept hk (fun k hk e => h.done.blk_ne h.scan.1 (by decide) (by rw [← e]; exact hk))⟩
theorem encs_drop {D : List OpV} {k : Nat} (hk : k < D.length) : encs (D.drop k) = D[k].enc ++ encs (D.drop (k + 1)) := by
  rw [← encs_cons, List.getElem_cons_drop]

end Go.Proofs.Yteffiglfeenokaa
