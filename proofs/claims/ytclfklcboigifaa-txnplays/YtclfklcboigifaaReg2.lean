/-
  A region that draws its order, under a condition S on the world of one's own choice, which need not hold any more behind one operation m for which all others wait. Nothing of a program's dump is used here.
-/
import Derived.Test.YtclfklcboigifaaReg
import Derived.StillTail
namespace Go.Proofs.Ytclfklcboigifaa
open Go.RowKit
set_option linter.unusedSimpArgs false
set_option linter.unusedVariables false
set_option maxRecDepth 100000

section
variable {P : Program} {ops : Array Oper} {Q : Exit → Act → World → Prop} {md : Region.Mode} {S S' : World → Prop} {m : Nat}

def wpAnyM (P : Program) (md : Region.Mode) (ops : Array Oper) (Q : Exit → Act → World → Prop) (S : World → Prop) (m : Nat) : Nat → Array Bool → Act → World → Prop
  | 0, listed, a, w => Region.ready md ops listed = [] ∧ Q .normal a w
  | fuel + 1, listed, a, w =>
    (Region.ready md ops listed = [] → Q .normal a w) ∧
    ∀ i ∈ Region.ready md ops listed, wpOp P ops Q i (fun a' w' => (i ≠ m → S w') ∧ wpAnyM P md ops Q S m fuel (listed.setIfInBounds i true) a' w') a w

theorem wpAny_of_M : ∀ (fuel : Nat) (listed : Array Bool) (a : Act) (w : World), wpAnyM P md ops Q S m fuel listed a w → wpAny P md ops Q fuel listed a w
  | 0, _, _, _, h => h
  | fuel + 1, _, _, _, h => ⟨h.1, fun i hi => wpOp_mono (fun a' w' h' => wpAny_of_M fuel _ a' w' h'.2) (h.2 i hi)⟩

theorem wpAnyM_mono (hS : ∀ w, S' w → S w) : ∀ (fuel : Nat) (listed : Array Bool) (a : Act) (w : World), wpAnyM P md ops Q S' m fuel listed a w → wpAnyM P md ops Q S m fuel listed a w
  | 0, _, _, _, h => h
  | fuel + 1, _, _, _, h => ⟨h.1, fun i hi => wpOp_mono (fun a' w' h' => ⟨fun hm => hS _ (h'.1 hm), wpAnyM_mono hS fuel _ a' w' h'.2⟩) (h.2 i hi)⟩

/-- m waits for i, or is none of them. -/
def waitsM (md : Region.Mode) (ops : Array Oper) (m i : Nat) : Bool := decide (i ≠ m) && (decide (ops.size ≤ m) || Region.waitsFor md ops m i)

/-- Of two that may come up now, neither waits for the other. -/
theorem no_wait {listed : Array Bool} {i j : Nat} {oj : Oper} (hi : i ∈ Region.ready md ops listed) (hj : j ∈ Region.ready md ops listed) (ho : ops[j]? = some oj) : ∀ e ∈ oj.after, Region.binds md e = true → e.on ≠ i := by
  rintro e he hb rfl
  obtain ⟨_, o, ho', hall⟩ := mem_ready.1 hj
  rw [ho] at ho'
  cases ho'
  have := hall e he hb
  rw [getD_both (mem_ready.1 hi).1] at this
  cases this

/-- All that have not come up yet, and do not wait for i, are apart from it. -/
def apartM (md : Region.Mode) (ops : Array Oper) (i : Nat) (oi : Oper) (listed : Array Bool) : Prop :=
  ∀ j oj, ops[j]? = some oj → j ≠ i → listed.getD j true = false → (∀ e ∈ oj.after, Region.binds md e = true → e.on ≠ i) → oi.apart ops oj = true
theorem apartM.set {i j : Nat} {oi : Oper} {listed : Array Bool} (h : apartM md ops i oi listed) (hj : listed.getD j true = false) : apartM md ops i oi (listed.setIfInBounds j true) := by
  intro k ok hk hki hun hno
  refine h k ok hk hki ?_ hno
  by_cases e : j = k
  · exact e ▸ hj
  · rwa [getD_set_ne true e] at hun

/-- One that may come up now, that yields its value wherever S holds, and for which m waits, may be taken first. -/
theorem wpAnyM_first {i : Nat} {oi : Oper} {v : Value} (hi : ops[i]? = some oi) (hm : waitsM md ops m i = true) (hsel : ∀ (j : Nat) (o : Oper) cs b, ops[j]? = some o → o.op ≠ .select cs b)
    (hQ : ∀ c a w, Q (.panic c) (a.put oi.dst v) w → Q (.panic c) a w) :
    ∀ (fuel : Nat) (listed : Array Bool) (a : Act) (w : World), apartM md ops i oi listed → i ∈ Region.ready md ops listed → YieldsIf P ops S oi v a → S w →
      wpAnyM P md ops Q S m fuel (listed.setIfInBounds i true) (a.put oi.dst v) w → wpAnyM P md ops Q S m (fuel + 1) listed a w
  | fuel, listed, a, w, hfree, hr, hy, hS, H => by
    refine ⟨fun h0 => absurd (h0 ▸ hr) (by simp), fun j hj => ?_⟩
    by_cases hji : j = i
    · subst hji
      exact hy.wpOp hi hS ⟨fun _ => hS, H⟩
    have hj2 := ready_mono hj hji
    match fuel, H with
    | 0, H => exact absurd (H.1 ▸ hj2) (by simp)
    | fuel + 1, H =>
      obtain ⟨hjun, oj, hoj, _⟩ := mem_ready.1 hj
      have hno := no_wait hr hj hoj
      have hjm : j ≠ m := by
        rintro rfl
        simp only [waitsM, Bool.and_eq_true, Bool.or_eq_true, decide_eq_true_eq] at hm
        rcases hm.2 with h | h
        · exact absurd (Array.getElem?_eq_some_iff.1 hoj).1 (by omega)
        · obtain ⟨o, ho, e, he, hb, hon⟩ := Region.waitsFor_spec h
          rw [hoj] at ho
          cases ho
          exact hno e he hb hon
      refine wpOp_mono ?_ (wpOp_putIf hoj (hfree j oj hoj hji hjun hno) (fun cs b => hsel i oi cs b hi) (fun cs b => hsel j oj cs b hoj) hQ hy (H.2 j hj2))
      rintro a' w' ⟨hy', hS', h'⟩
      rw [Array.setIfInBounds_comm _ _ (Ne.symm hji)] at h'
      exact ⟨hS', wpAnyM_first hi hm hsel hQ fuel _ a' w' (hfree.set hjun) (ready_mono hr (Ne.symm hji)) hy' (hS' hjm) h'⟩

variable {fuel : Nat} {listed : Array Bool} {a : Act} {w w' : World}

/-- From here on a stronger condition. -/
theorem raiseM (hS : ∀ U, S' U → S U) (h : wpAnyM P md ops Q S' m fuel listed a w) : wpAnyM P md ops Q S m fuel listed a w := wpAnyM_mono hS _ _ _ _ h

/-- A read, taken first. -/
theorem tkS (i t : Nat) {oi : Oper} {v : Value} (hS : S w) (hi : ops[i]? = some oi) (hd : oi.dst = some t) (hm : waitsM md ops m i = true) (hs : Region.noSelect ops = true) (hf : Region.free md ops listed i = true) (hr : (Region.ready md ops listed).contains i = true)
    (hw : Region.wanted oi (yielded ops a.tmps) = true) (hQ : ∀ c a w, Q (.panic c) (a.put oi.dst v) w → Q (.panic c) a w) (hrun : ∀ U, S U → (execOp a.eval oi).run P U = .ok (.value v) U)
    (h : wpAnyM P md ops Q S m fuel (listed.setIfInBounds i true) (a.put (some t) v) w) : wpAnyM P md ops Q S m (fuel + 1) listed a w := by
  rw [← hd] at h
  exact wpAnyM_first hi hm (Region.noSelect_spec hs) hQ fuel listed a w (Region.free_spec hi hf) (by simpa using hr) (.inl ⟨hw, hrun⟩) hS h
/-- One that is not wanted. -/
theorem tkNS (i t : Nat) {oi : Oper} (hS : S w) (hi : ops[i]? = some oi) (hd : oi.dst = some t) (hm : waitsM md ops m i = true) (hs : Region.noSelect ops = true) (hf : Region.free md ops listed i = true) (hr : (Region.ready md ops listed).contains i = true)
    (hw : Region.wanted oi (yielded ops a.tmps) = false) (hQ : ∀ c a w, Q (.panic c) (a.put oi.dst undef) w → Q (.panic c) a w)
    (h : wpAnyM P md ops Q S m fuel (listed.setIfInBounds i true) (a.put (some t) undef) w) : wpAnyM P md ops Q S m (fuel + 1) listed a w := by
  rw [← hd] at h
  exact wpAnyM_first hi hm (Region.noSelect_spec hs) hQ fuel listed a w (Region.free_spec hi hf) (by simpa using hr) (.inr ⟨hw, rfl⟩) hS h

theorem stepVS (i t : Nat) {oi : Oper} {v : Value} (hi : ops[i]? = some oi) (hd : oi.dst = some t) (hw : Region.wanted oi (yielded ops a.tmps) = true) (hrun : (execOp a.eval oi).run P w = .ok (.value v) w') (hS : i ≠ m → S w')
    (h : wpAnyM P md ops Q S m fuel (listed.setIfInBounds i true) (a.put (some t) v) w') :
    wpOp P ops Q i (fun a' w'' => (i ≠ m → S w'') ∧ wpAnyM P md ops Q S m fuel (listed.setIfInBounds i true) a' w'') a w := by
  unfold wpOp
  simp only [hi, hw, if_true]
  refine .inl ?_
  unfold Oper.wp
  rw [hrun]
  rw [← hd] at h
  exact ⟨hS, h⟩
theorem stepCS (i t : Nat) {oi : Oper} {f : FuncId} {args : Array Value} {R : Ending → World → Prop} (hi : ops[i]? = some oi) (hd : oi.dst = some t) (hw : Region.wanted oi (yielded ops a.tmps) = true) (hrun : (execOp a.eval oi).run P w = .ok (.enter f args) w)
    (hc : Calls P f args w R) (h : ∀ e w', R e w' → ∃ v, e = .returned v ∧ S w' ∧ wpAnyM P md ops Q S m fuel (listed.setIfInBounds i true) (a.put (some t) v) w') :
    wpOp P ops Q i (fun a' w'' => (i ≠ m → S w'') ∧ wpAnyM P md ops Q S m fuel (listed.setIfInBounds i true) a' w'') a w := by
  unfold wpOp
  simp only [hi, hw, if_true]
  refine .inl ?_
  unfold Oper.wp
  rw [hrun]
  rw [← hd] at h
  exact hc.mono fun e w' hR => by
    obtain ⟨v, rfl, hk, h2⟩ := h e w' hR
    exact ⟨fun _ => hk, h2⟩
theorem oneS (i : Nat) (hr : Region.ready md ops listed = [i]) (h : wpOp P ops Q i (fun a' w'' => (i ≠ m → S w'') ∧ wpAnyM P md ops Q S m fuel (listed.setIfInBounds i true) a' w'') a w) : wpAnyM P md ops Q S m (fuel + 1) listed a w := by
  refine ⟨fun h0 => absurd (hr ▸ h0) (by simp), hr ▸ ?_⟩
  intro j hj
  simp at hj
  subst hj
  exact h
theorem twoS (i j : Nat) (hr : Region.ready md ops listed = [i, j]) (h : wpOp P ops Q i (fun a' w'' => (i ≠ m → S w'') ∧ wpAnyM P md ops Q S m fuel (listed.setIfInBounds i true) a' w'') a w)
    (h2 : wpOp P ops Q j (fun a' w'' => (j ≠ m → S w'') ∧ wpAnyM P md ops Q S m fuel (listed.setIfInBounds j true) a' w'') a w) : wpAnyM P md ops Q S m (fuel + 1) listed a w := by
  refine ⟨fun h0 => absurd (hr ▸ h0) (by simp), hr ▸ ?_⟩
  intro k hk
  simp at hk
  rcases hk with rfl | rfl
  · exact h
  · exact h2
/-- The only one that may come up is a call. -/
theorem oneCS (i t : Nat) {oi : Oper} {f : FuncId} {args : Array Value} {R : Ending → World → Prop} (hr : Region.ready md ops listed = [i]) (hi : ops[i]? = some oi) (hd : oi.dst = some t) (hw : Region.wanted oi (yielded ops a.tmps) = true) (hrun : (execOp a.eval oi).run P w = .ok (.enter f args) w)
    (hc : Calls P f args w R) (h : ∀ e w', R e w' → ∃ v, e = .returned v ∧ S w' ∧ wpAnyM P md ops Q S m fuel (listed.setIfInBounds i true) (a.put (some t) v) w') :
    wpAnyM P md ops Q S m (fuel + 1) listed a w := oneS i hr (stepCS i t hi hd hw hrun hc h)
/-- The only one that may come up makes memory. -/
theorem oneVS (i t : Nat) {oi : Oper} {v : Value} (hr : Region.ready md ops listed = [i]) (hi : ops[i]? = some oi) (hd : oi.dst = some t) (hw : Region.wanted oi (yielded ops a.tmps) = true) (hrun : (execOp a.eval oi).run P w = .ok (.value v) w') (hS : S w')
    (h : wpAnyM P md ops Q S m fuel (listed.setIfInBounds i true) (a.put (some t) v) w') : wpAnyM P md ops Q S m (fuel + 1) listed a w := oneS i hr (stepVS i t hi hd hw hrun (fun _ => hS) h)
/-- The last one, which leaves nothing. -/
theorem lastS {oi : Oper} (hr : Region.ready md ops listed = [m]) (hi : ops[m]? = some oi) (hw : Region.wanted oi (yielded ops a.tmps) = true) (hrun : (execOp a.eval oi).run P w = .ok .skip w')
    (hr2 : Region.ready md ops (listed.setIfInBounds m true) = []) (h : Q .normal (a.put oi.dst undef) w') : wpAnyM P md ops Q S m (fuel + 1) listed a w := by
  refine oneS m hr ?_
  unfold wpOp
  simp only [hi, hw, if_true]
  refine .inl ?_
  unfold Oper.wp
  rw [hrun]
  refine ⟨fun h => absurd rfl h, ?_⟩
  cases fuel with
  | zero => exact ⟨hr2, h⟩
  | succ n => exact ⟨fun _ => h, by rw [hr2]; simp⟩
theorem doneS (hr : Region.ready md ops listed = []) (h : Q .normal a w) : wpAnyM P md ops Q S m fuel listed a w := by
  cases fuel with
  | zero => exact ⟨hr, h⟩
  | succ n => exact ⟨fun _ => h, by rw [hr]; simp⟩
theorem region_S {id : Nat} (m : Nat) (S : World → Prop) (hm : P.follows .mixedOrders = true)
    (h : ∀ w', Kept (fun _ => False) w w' → w'.heap = w.heap → wpAnyM P .any ops Q S m ops.size (Array.replicate ops.size false) a w') : (Code.region id ops true).wp P Q a w :=
  wp_region_any hm (wpAny_of_M _ _ _ _ (h _ ⟨rfl, rfl, rfl, Nat.le_refl _, fun _ _ _ => rfl⟩ rfl))
/-- The condition may be chosen behind the draw. -/
theorem region_S0 {id : Nat} (m : Nat) (hm : P.follows .mixedOrders = true)
    (h : ∀ w', Kept (fun _ => False) w w' → w'.heap = w.heap → ∃ S : World → Prop, wpAnyM P .any ops Q S m ops.size (Array.replicate ops.size false) a w') : (Code.region id ops true).wp P Q a w := by
  obtain ⟨S, h⟩ := h { w with drawn := w.drawn + 1 } ⟨rfl, rfl, rfl, Nat.le_refl _, fun _ _ _ => rfl⟩ rfl
  exact wp_region_any hm (wpAny_of_M _ _ _ _ h)
end

end Go.Proofs.Ytclfklcboigifaa
