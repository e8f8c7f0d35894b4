/-
  A region that draws its order: its reads first, then the others one by one, each leaving what was there as it was. Stops for walking by hand. Nothing of a program's dump is used here.
-/
import Derived.Test.YtclfklcboigifaaBlkB
namespace Go.Proofs.Ytclfklcboigifaa
open Go.RowKit
set_option linter.unusedSimpArgs false
set_option linter.unusedVariables false
set_option maxRecDepth 100000

section
variable {P : Program} {md : Region.Mode} {ops : Array Oper} {Q : Exit → Act → World → Prop} {S S' : World → Prop} {fuel : Nat} {listed : Array Bool} {a : Act} {w w' : World}

theorem wanted_none {o : Oper} (hg : o.guard = none) : Region.wanted o (yielded ops a.tmps) = true := by simp [Region.wanted, hg]

theorem wanted_some {o oj : Oper} {j d : Nat} {bb : Bool} (hg : o.guard = some (j, bb)) (hj : ops[j]? = some oj) (hd : oj.dst = some d) (hb : a.eval (.tmp d) = .bool bb) (hs : d < a.tmps.size) : Region.wanted o (yielded ops a.tmps) = true := by
  have hb' : a.tmps[d]? = some (.bool bb) := by
    simp only [Act.eval, Array.getD_eq_getD_getElem?] at hb
    rw [Array.getElem?_eq_getElem hs] at hb ⊢
    simpa using hb
  simp [Region.wanted, hg, yielded, hj, hd, hb']

theorem wanted_not {o oj : Oper} {j d : Nat} {bb : Bool} (hg : o.guard = some (j, bb)) (hj : ops[j]? = some oj) (hd : oj.dst = some d) (hb : a.eval (.tmp d) = .bool (!bb)) (hs : d < a.tmps.size) : Region.wanted o (yielded ops a.tmps) = false := by
  have hb' : a.tmps[d]? = some (.bool (!bb)) := by
    simp only [Act.eval, Array.getD_eq_getD_getElem?] at hb
    rw [Array.getElem?_eq_getElem hs] at hb ⊢
    simpa using hb
  cases bb <;> simp [Region.wanted, hg, yielded, hj, hd, hb']

/-- The condition may be made stronger on the way. -/
theorem wpAnyH_mono (hS : ∀ w, S' w → S w) : ∀ (fuel : Nat) (listed : Array Bool) (a : Act) (w : World), wpAnyH P md ops Q S' fuel listed a w → wpAnyH P md ops Q S fuel listed a w
  | 0, _, _, _, h => h
  | fuel + 1, _, _, _, h => ⟨h.1, fun i hi => wpOp_mono (fun a' w' h' => ⟨hS _ h'.1, wpAnyH_mono hS fuel _ a' w' h'.2⟩) (h.2 i hi)⟩

/-- From here on what is there now stays too. -/
theorem raise {w0 : World} (hk : Kept (fun _ => False) w0 w) (h : wpAnyH P md ops Q (Kept (fun _ => False) w) fuel listed a w) : wpAnyH P md ops Q (Kept (fun _ => False) w0) fuel listed a w :=
  wpAnyH_mono (fun U hU => hk.trans hU (fun _ _ h => h)) _ _ _ _ h

/-- A read, taken first: what was there at w0 stays as it is. -/
theorem tkK {w0 : World} (i t : Nat) {oi : Oper} {v : Value} (hk : Kept (fun _ => False) w0 w) (hi : ops[i]? = some oi) (hd : oi.dst = some t) (hs : Region.noSelect ops = true) (hf : Region.free md ops listed i = true) (hr : (Region.ready md ops listed).contains i = true)
    (hw : Region.wanted oi (yielded ops a.tmps) = true) (hQ : ∀ c a w, Q (.panic c) (a.put oi.dst v) w → Q (.panic c) a w) (hrun : ∀ U, Kept (fun _ => False) w0 U → (execOp a.eval oi).run P U = .ok (.value v) U)
    (h : wpAnyH P md ops Q (Kept (fun _ => False) w0) fuel (listed.setIfInBounds i true) (a.put (some t) v) w) : wpAnyH P md ops Q (Kept (fun _ => False) w0) (fuel + 1) listed a w := by
  rw [← hd] at h
  exact wpAnyH_take hi hs hf hr hQ (.inl ⟨hw, hrun⟩) hk h

/-- One that is not wanted. -/
theorem tkN {w0 : World} (i t : Nat) {oi : Oper} (hk : Kept (fun _ => False) w0 w) (hi : ops[i]? = some oi) (hd : oi.dst = some t) (hs : Region.noSelect ops = true) (hf : Region.free md ops listed i = true) (hr : (Region.ready md ops listed).contains i = true)
    (hw : Region.wanted oi (yielded ops a.tmps) = false) (hQ : ∀ c a w, Q (.panic c) (a.put oi.dst undef) w → Q (.panic c) a w)
    (h : wpAnyH P md ops Q (Kept (fun _ => False) w0) fuel (listed.setIfInBounds i true) (a.put (some t) undef) w) : wpAnyH P md ops Q (Kept (fun _ => False) w0) (fuel + 1) listed a w := by
  rw [← hd] at h
  exact wpAnyH_take hi hs hf hr hQ (.inr ⟨hw, rfl⟩) hk h

/-- One of those that may come up: any step of the world that keeps what was. -/
theorem stepV {w0 : World} (i t : Nat) {oi : Oper} {v : Value} (hi : ops[i]? = some oi) (hd : oi.dst = some t) (hw : Region.wanted oi (yielded ops a.tmps) = true) (hrun : (execOp a.eval oi).run P w = .ok (.value v) w') (hk : Kept (fun _ => False) w0 w')
    (h : wpAnyH P md ops Q (Kept (fun _ => False) w0) fuel (listed.setIfInBounds i true) (a.put (some t) v) w') :
    wpOp P ops Q i (fun a' w'' => Kept (fun _ => False) w0 w'' ∧ wpAnyH P md ops Q (Kept (fun _ => False) w0) fuel (listed.setIfInBounds i true) a' w'') a w := by
  unfold wpOp
  simp only [hi, hw, if_true]
  refine .inl ?_
  unfold Oper.wp
  rw [hrun]
  rw [← hd] at h
  exact ⟨hk, h⟩

theorem stepC {w0 : World} (i t : Nat) {oi : Oper} {f : FuncId} {args : Array Value} {R : Ending → World → Prop} (hi : ops[i]? = some oi) (hd : oi.dst = some t) (hw : Region.wanted oi (yielded ops a.tmps) = true) (hrun : (execOp a.eval oi).run P w = .ok (.enter f args) w)
    (hc : Calls P f args w R) (h : ∀ e w', R e w' → ∃ v, e = .returned v ∧ Kept (fun _ => False) w0 w' ∧ wpAnyH P md ops Q (Kept (fun _ => False) w0) fuel (listed.setIfInBounds i true) (a.put (some t) v) w') :
    wpOp P ops Q i (fun a' w'' => Kept (fun _ => False) w0 w'' ∧ wpAnyH P md ops Q (Kept (fun _ => False) w0) fuel (listed.setIfInBounds i true) a' w'') a w := by
  unfold wpOp
  simp only [hi, hw, if_true]
  refine .inl ?_
  unfold Oper.wp
  rw [hrun]
  rw [← hd] at h
  exact hc.mono fun e w' hR => by
    obtain ⟨v, rfl, hk, h2⟩ := h e w' hR
    exact ⟨hk, h2⟩

/-- The only one that may come up. -/
theorem one (i : Nat) (hr : Region.ready md ops listed = [i]) (h : wpOp P ops Q i (fun a' w'' => S w'' ∧ wpAnyH P md ops Q S fuel (listed.setIfInBounds i true) a' w'') a w) : wpAnyH P md ops Q S (fuel + 1) listed a w := by
  refine wpAnyH_all hr (by simp) ?_
  intro j hj
  simp at hj
  subst hj
  exact h
/-- One of two. -/
theorem two (i j : Nat) (hr : Region.ready md ops listed = [i, j]) (h : wpOp P ops Q i (fun a' w'' => S w'' ∧ wpAnyH P md ops Q S fuel (listed.setIfInBounds i true) a' w'') a w)
    (h2 : wpOp P ops Q j (fun a' w'' => S w'' ∧ wpAnyH P md ops Q S fuel (listed.setIfInBounds j true) a' w'') a w) : wpAnyH P md ops Q S (fuel + 1) listed a w := by
  refine wpAnyH_all hr (by simp) ?_
  intro k hk
  simp at hk
  rcases hk with rfl | rfl
  · exact h
  · exact h2

/-- The only one that may come up is a call. (In one law: where the operation is guarded, a goal 'wpOp' is slow to look at.) -/
theorem oneC {w0 : World} (i t : Nat) {oi : Oper} {f : FuncId} {args : Array Value} {R : Ending → World → Prop} (hr : Region.ready md ops listed = [i]) (hi : ops[i]? = some oi) (hd : oi.dst = some t) (hw : Region.wanted oi (yielded ops a.tmps) = true) (hrun : (execOp a.eval oi).run P w = .ok (.enter f args) w)
    (hc : Calls P f args w R) (h : ∀ e w', R e w' → ∃ v, e = .returned v ∧ Kept (fun _ => False) w0 w' ∧ wpAnyH P md ops Q (Kept (fun _ => False) w0) fuel (listed.setIfInBounds i true) (a.put (some t) v) w') :
    wpAnyH P md ops Q (Kept (fun _ => False) w0) (fuel + 1) listed a w :=
  one i hr (stepC i t hi hd hw hrun hc h)
theorem oneV {w0 : World} (j u : Nat) {oj : Oper} {v : Value} (hr : Region.ready md ops listed = [j]) (hj : ops[j]? = some oj) (hjd : oj.dst = some u) (hjw : Region.wanted oj (yielded ops a.tmps) = true) (hjrun : (execOp a.eval oj).run P w = .ok (.value v) w') (hjk : Kept (fun _ => False) w0 w')
    (h2 : wpAnyH P md ops Q (Kept (fun _ => False) w0) fuel (listed.setIfInBounds j true) (a.put (some u) v) w') :
    wpAnyH P md ops Q (Kept (fun _ => False) w0) (fuel + 1) listed a w :=
  one j hr (stepV j u hj hjd hjw hjrun hjk h2)
theorem twoCV {w0 : World} (i t j u : Nat) {oi oj : Oper} {f : FuncId} {args : Array Value} {R : Ending → World → Prop} {v : Value} (hr : Region.ready md ops listed = [i, j])
    (hi : ops[i]? = some oi) (hd : oi.dst = some t) (hw : Region.wanted oi (yielded ops a.tmps) = true) (hrun : (execOp a.eval oi).run P w = .ok (.enter f args) w)
    (hc : Calls P f args w R) (h : ∀ e w', R e w' → ∃ v, e = .returned v ∧ Kept (fun _ => False) w0 w' ∧ wpAnyH P md ops Q (Kept (fun _ => False) w0) fuel (listed.setIfInBounds i true) (a.put (some t) v) w')
    (hj : ops[j]? = some oj) (hjd : oj.dst = some u) (hjw : Region.wanted oj (yielded ops a.tmps) = true) (hjrun : (execOp a.eval oj).run P w = .ok (.value v) w') (hjk : Kept (fun _ => False) w0 w')
    (h2 : wpAnyH P md ops Q (Kept (fun _ => False) w0) fuel (listed.setIfInBounds j true) (a.put (some u) v) w') : wpAnyH P md ops Q (Kept (fun _ => False) w0) (fuel + 1) listed a w :=
  two i j hr (stepC i t hi hd hw hrun hc h) (stepV j u hj hjd hjw hjrun hjk h2)

theorem region_kept {id : Nat} (hm : P.follows .mixedOrders = true)
    (h : ∀ w', Kept (fun _ => False) w w' → w'.heap = w.heap → wpAnyH P .any ops Q (Kept (fun _ => False) w') ops.size (Array.replicate ops.size false) a w') : (Code.region id ops true).wp P Q a w :=
  wp_region_held hm (h _ ⟨rfl, rfl, rfl, Nat.le_refl _, fun _ _ _ => rfl⟩ rfl)
end

section
variable {P : Program} {ops : Array Oper} {Q : Exit → Act → World → Prop} {a : Act} {w : World} {rest : List Oper} {dst : Option Tmp} {ty : TypeId} {pos : String} {aft : Array Edge} {x y : Operand}
theorem stop_make (t : TypeId) (h : Hid (wpList P ops Q (⟨dst, .makeSlice t x y, ty, pos, aft, none⟩ :: rest) a w)) : wpList P ops Q (⟨dst, .makeSlice t x y, ty, pos, aft, none⟩ :: rest) a w := h.out
theorem stop_convert (t u : TypeId) (h : Hid (wpList P ops Q (⟨dst, .convert t u x, ty, pos, aft, none⟩ :: rest) a w)) : wpList P ops Q (⟨dst, .convert t u x, ty, pos, aft, none⟩ :: rest) a w := h.out
theorem stop_append (t : TypeId) (h : Hid (wpList P ops Q (⟨dst, .call { callee := .builtin .append, args := #[x, y], argTypes := #[t, t] }, ty, pos, aft, none⟩ :: rest) a w)) : wpList P ops Q (⟨dst, .call { callee := .builtin .append, args := #[x, y], argTypes := #[t, t] }, ty, pos, aft, none⟩ :: rest) a w := h.out
theorem stop_copy (t : TypeId) (h : Hid (wpList P ops Q (⟨dst, .call { callee := .builtin .copy, args := #[x, y], argTypes := #[t, t] }, ty, pos, aft, none⟩ :: rest) a w)) : wpList P ops Q (⟨dst, .call { callee := .builtin .copy, args := #[x, y], argTypes := #[t, t] }, ty, pos, aft, none⟩ :: rest) a w := h.out
theorem stop_bin {t u : TypeId} (o : BinOp) (h : Hid (wpList P ops Q (⟨dst, .binOp o t x y u, ty, pos, aft, none⟩ :: rest) a w)) : wpList P ops Q (⟨dst, .binOp o t x y u, ty, pos, aft, none⟩ :: rest) a w := h.out
theorem stop_un {t : TypeId} (o : UnOp) (h : Hid (wpList P ops Q (⟨dst, .unOp o t x, ty, pos, aft, none⟩ :: rest) a w)) : wpList P ops Q (⟨dst, .unOp o t x, ty, pos, aft, none⟩ :: rest) a w := h.out
theorem stop_bs (t : TypeId) {n : Nat} {es : Array (Nat × Operand)} (h : Hid (wpList P ops Q (⟨dst, .buildSlice t n es, ty, pos, aft, none⟩ :: rest) a w)) : wpList P ops Q (⟨dst, .buildSlice t n es, ty, pos, aft, none⟩ :: rest) a w := h.out
theorem stop_slice (t : TypeId) {l h m : Option Operand} (hh : Hid (wpList P ops Q (⟨dst, .slice t x l h m, ty, pos, aft, none⟩ :: rest) a w)) : wpList P ops Q (⟨dst, .slice t x l h m, ty, pos, aft, none⟩ :: rest) a w := hh.out
theorem stop_build (t : TypeId) {es : Array (Nat × Operand)} (h : Hid (wpList P ops Q (⟨dst, .build t es, ty, pos, aft, none⟩ :: rest) a w)) : wpList P ops Q (⟨dst, .build t es, ty, pos, aft, none⟩ :: rest) a w := h.out
end

theorem eval_put_ne (a : Act) (d t : Nat) (v : Value) (h : d ≠ t) : (a.put (some d) v).eval (.tmp t) = a.eval (.tmp t) := by
  simp [Act.put, Act.eval, Array.getD_eq_getD_getElem?, Array.getElem?_setIfInBounds, h]
theorem eval_put_eq (a : Act) (d : Nat) (v : Value) (h : d < a.tmps.size) : (a.put (some d) v).eval (.tmp d) = v := by
  simp [Act.put, Act.eval, Array.getD_eq_getD_getElem?, Array.getElem?_setIfInBounds, h]
theorem size_put (a : Act) (d : Option Nat) (v : Value) : (a.put d v).tmps.size = a.tmps.size := by
  cases d <;> simp [Act.put]
theorem put_defers (a : Act) (d : Option Nat) (v : Value) : (a.put d v).defers = a.defers := by cases d <;> rfl
theorem abs1 {p : Act → Prop} {a : Act} (i n : Nat) {v : Value} {ds : List Deferred} (h1 : a.eval (.tmp i) = v) (hs : a.tmps.size = n) (hd : a.defers = ds) (h : ∀ a' : Act, a'.eval (.tmp i) = v → a'.tmps.size = n → a'.defers = ds → p a') : p a := h a h1 hs hd
theorem put_lit (l : List Value) (ds : List Deferred) (t : Nat) (v : Value) : Act.put ⟨l.toArray, ds⟩ (some t) v = ⟨(l.set t v).toArray, ds⟩ := by simp [Act.put]
theorem hold_frame {p : Act → Prop} {a0 : Act} (h : ∀ a, Hid (a = a0) → p a) : p a0 := h a0 (hide rfl)

theorem Cells.set {w : World} {b so : Nat} {M : List Value} (h : Cells w b so M) (j : Nat) (hj : j < M.length) (v : Value) : Cells (w.setCell ⟨b, so + j, none⟩ v) b so (M.set j v) := by
  intro i u hi
  by_cases he : i = j
  · subst he
    rw [List.getElem?_set_self hj] at hi
    cases hi
    have := h i _ (List.getElem?_eq_getElem hj)
    exact World.cell?_setCell_same w _ _ this
  · rw [List.getElem?_set_ne (fun e => he e.symm)] at hi
    have := h i u hi
    rw [World.cell?_setCell_other]
    · exact this
    · intro e
      have := congrArg Addr.off e
      simp at this
      omega

end Go.Proofs.Ytclfklcboigifaa
