/-
  A region that draws its order, under a condition S on the world of one's own choice, which need not hold any more behind one operation m for which all others wait. Nothing of a program's dump is used here.
-/
import Derived.Test.YteffiglfeenokaaReg
import Derived.StillTail
namespace Go.Proofs.Yteffiglfeenokaa
open Go.RowKit
set_option linter.unusedSimpArgs false
set_option linter.unusedVariables false

section
variable {P : Program} {ops : Array Oper} {Q : Exit → Act → World → Prop} {md : Region.Mode} {S S' : World → Prop} {m : Nat}

def wpAnyM (P : Program) (md : Region.Mode) (ops : Array Oper) (Q : Exit → Act → World → Prop) (S : World → Prop) (m : Nat) : Nat → Array Bool → Act → World → Prop
  | 0, listed, a, w => Region.ready md ops listed = [] ∧ Q .normal a w
  | fuel + 1, listed, a, w =>
    (Region.ready md ops listed = [] → Q .normal a w) ∧
    ∀ i ∈ Region.ready md ops listed, wpOp P ops Q i (fun a' w' => (i ≠ m → S w') ∧ wpAnyM P md ops Q S m fuel (listed.setIfInBounds i true) a' w') a w

theorem wpAny_of_M : ∀ (fuel : Nat) (listed : Array Bool) (a : Act) (w : World), wpAnyM P md ops Q S m fuel listed a w → wpAny P md ops Q fuel listed a w
  | 0, _, _, _, h => h
  | fuel + 1, _, _, _, h => ⟨h.1, fun i hi => wpOp_mono (fun a' w' h' => wpAny_of_M fuel _ a' w' h'.2) (h.2 i hi)⟩

theorem wpAnyM_mono (hS : ∀ w, S' w → S w) : ∀ (fuel : Nat) (listed : Array Bool) (a : Act) (w : World), wpAnyM P md ops Q S' m fuel listed a w → wpAnyM P md ops Q S m fuel listed a w
  | 0, _, _, _, h => h
  | fuel + 1, _, _, _, h => ⟨h.1, fun i hi => wpOp_mono (fun a' w' h' => ⟨fun hm => hS _ (h'.1 hm), wpAnyM_mono hS fuel _ a' w' h'.2⟩) (h.2 i hi)⟩

/-- m waits for i, or is none of them. -/
def waitsM (md : Region.Mode) (ops : Array Oper) (m i : Nat) : Bool := decide (i ≠ m) && (decide (ops.size ≤ m) || Region.waitsFor md ops m i)

theorem wpAnyM_first {i : Nat} {oi : Oper} {v : Value} (hi : ops[i]? = some oi) (hm : waitsM md ops m i = true) (hsel : ∀ (j : Nat) (o : Oper) cs b, ops[j]? = some o → o.op ≠ .select cs b)
    (hQ : ∀ c a w, Q (.panic c) (a.put oi.dst v) w → Q (.panic c) a w) :
    ∀ (fuel : Nat) (listed : Array Bool) (a : Act) (w : World),
      (∀ j oj, ops[j]? = some oj → j ≠ i → listed.getD j true = false → (∀ e ∈ oj.after, Region.binds md e = true → e.on ≠ i) → oi.apart ops oj = true) →
      i ∈ Region.ready md ops listed → YieldsIf P ops S oi v a → S w →
      wpAnyM P md ops Q S m fuel (listed.setIfInBounds i true) (a.put oi.dst v) w → wpAnyM P md ops Q S m (fuel + 1) listed a w := by
  intro fuel
  simp only [waitsM, Bool.and_eq_true, Bool.or_eq_true, decide_eq_true_eq] at hm
  obtain ⟨hne, hmw⟩ := hm
  induction fuel with
  | zero =>
    intro listed a w _ hr hy hS H
    refine ⟨fun h => (by rw [h] at hr; cases hr), fun j hj => ?_⟩
    by_cases hji : j = i
    · subst hji; exact hy.wpOp hi hS ⟨fun _ => hS, H⟩
    · have := ready_mono hj hji
      rw [H.1] at this
      cases this
  | succ fuel ih =>
    intro listed a w hfree hr hy hS H
    refine ⟨fun h => (by rw [h] at hr; cases hr), fun j hj => ?_⟩
    by_cases hji : j = i
    · subst hji; exact hy.wpOp hi hS ⟨fun _ => hS, H⟩
    · have h1 := H.2 j (ready_mono hj hji)
      obtain ⟨hjun, oj, hoj, hall⟩ := mem_ready.1 hj
      have hnot : ∀ e ∈ oj.after, Region.binds md e = true → e.on ≠ i := fun e he hb heq => by
        have h1 := hall e he hb
        have h0 := (mem_ready.1 hr).1
        rw [heq] at h1
        rcases Nat.lt_or_ge i listed.size with h' | h'
        · simp [h'] at h0 h1; rw [h0] at h1; cases h1
        · simp [Array.getElem?_eq_none h'] at h1
      have hjm : j ≠ m := by
        intro e
        subst e
        rcases hmw with h | h
        · exact absurd (Array.getElem?_eq_some_iff.1 hoj).1 (by omega)
        · obtain ⟨o, ho, x, hx, hb, hon⟩ := Region.waitsFor_spec h
          rw [hoj] at ho
          cases ho
          exact hnot x hx hb hon
      have h2 := wpOp_putIf hoj (hfree j oj hoj hji hjun hnot) (fun cs b => hsel i oi cs b hi) (fun cs b => hsel j oj cs b hoj) hQ hy h1
      have hfree' : ∀ k ok, ops[k]? = some ok → k ≠ i → (listed.setIfInBounds j true).getD k true = false →
          (∀ e ∈ ok.after, Region.binds md e = true → e.on ≠ i) → oi.apart ops ok = true := fun k ok hk hki hun hno => by
        refine hfree k ok hk hki ?_ hno
        by_cases hjk : j = k
        · subst hjk; exact hjun
        · rw [getD_set_ne true hjk] at hun; exact hun
      refine wpOp_mono (fun a' w' h3 => ⟨h3.2.1, ih (listed.setIfInBounds j true) a' w' hfree' (ready_mono hr (Ne.symm hji)) h3.1 (h3.2.1 hjm) ?_⟩) h2
      rw [Array.setIfInBounds_comm _ _ hji]
      exact h3.2.2

variable {fuel : Nat} {listed : Array Bool} {a : Act} {w w' : World}

/-- From here on a stronger condition. -/
theorem raiseM (hS : ∀ U, S' U → S U) (h : wpAnyM P md ops Q S' m fuel listed a w) : wpAnyM P md ops Q S m fuel listed a w := wpAnyM_mono hS _ _ _ _ h

/-- A read, taken first. -/
theorem tkS (i t : Nat) {oi : Oper} {v : Value} (hS : S w) (hi : ops[i]? = some oi) (hd : oi.dst = some t) (hm : waitsM md ops m i = true) (hs : Region.noSelect ops = true) (hf : Region.free md ops listed i = true) (hr : (Region.ready md ops listed).contains i = true)
    (hw : Region.wanted oi (yielded ops a.tmps) = true) (hQ : ∀ c a w, Q (.panic c) (a.put oi.dst v) w → Q (.panic c) a w) (hrun : ∀ U, S U → (execOp a.eval oi).run P U = .ok (.value v) U)
    (h : wpAnyM P md ops Q S m fuel (listed.setIfInBounds i true) (a.put (some t) v) w) : wpAnyM P md ops Q S m (fuel + 1) listed a w := by
  rw [← hd] at h
  exact wpAnyM_first hi hm (Region.noSelect_spec hs) hQ fuel listed a w (Region.free_spec hi hf) (by simpa using hr) (.inl ⟨hw, hrun⟩) hS h
/-- One that is not wanted. -/
theorem tkNS (i t : Nat) {oi : Oper} (hS : S w) (hi : ops[i]? = some oi) (hd : oi.dst = some t) (hm : waitsM md ops m i = true) (hs : Region.noSelect ops = true) (hf : Region.free md ops listed i = true) (hr : (Region.ready md ops listed).contains i = true)
    (hw : Region.wanted oi (yielded ops a.tmps) = false) (hQ : ∀ c a w, Q (.panic c) (a.put oi.dst undef) w → Q (.panic c) a w)
    (h : wpAnyM P md ops Q S m fuel (listed.setIfInBounds i true) (a.put (some t) undef) w) : wpAnyM P md ops Q S m (fuel + 1) listed a w := by
  rw [← hd] at h
  exact wpAnyM_first hi hm (Region.noSelect_spec hs) hQ fuel listed a w (Region.free_spec hi hf) (by simpa using hr) (.inr ⟨hw, rfl⟩) hS h

theorem stepVS (i t : Nat) {oi : Oper} {v : Value} (hi : ops[i]? = some oi) (hd : oi.dst = some t) (hw : Region.wanted oi (yielded ops a.tmps) = true) (hrun : (execOp a.eval oi).run P w = .ok (.value v) w') (hS : i ≠ m → S w')
    (h : wpAnyM P md ops Q S m fuel (listed.setIfInBounds i true) (a.put (some t) v) w') :
    wpOp P ops Q i (fun a' w'' => (i ≠ m → S w'') ∧ wpAnyM P md ops Q S m fuel (listed.setIfInBounds i true) a' w'') a w := by
  unfold wpOp
  simp only [hi, hw, if_true]
  refine .inl ?_
  unfold Oper.wp
  rw [hrun]
  rw [← hd] at h
  exact ⟨hS, h⟩
theorem stepCS (i t : Nat) {oi : Oper} {f : FuncId} {args : Array Value} {R : Ending → World → Prop} (hi : ops[i]? = some oi) (hd : oi.dst = some t) (hw : Region.wanted oi (yielded ops a.tmps) = true) (hrun : (execOp a.eval oi).run P w = .ok (.enter f args) w)
    (hc : Calls P f args w R) (h : ∀ e w', R e w' → ∃ v, e = .returned v ∧ S w' ∧ wpAnyM P md ops Q S m fuel (listed.setIfInBounds i true) (a.put (some t) v) w') :
    wpOp P ops Q i (fun a' w'' => (i ≠ m → S w'') ∧ wpAnyM P md ops Q S m fuel (listed.setIfInBounds i true) a' w'') a w := by
  unfold wpOp
  simp only [hi, hw, if_true]
  refine .inl ?_
  unfold Oper.wp
  rw [hrun]
  rw [← hd] at h
  exact hc.mono fun e w' hR => by
    obtain ⟨v, rfl, hk, h2⟩ := h e w' hR
    exact ⟨fun _ => hk, h2⟩
theorem oneS (i : Nat) (hr : Region.ready md ops listed = [i]) (h : wpOp P ops Q i (fun a' w'' => (i ≠ m → S w'') ∧ wpAnyM P md ops Q S m fuel (listed.setIfInBounds i true) a' w'') a w) : wpAnyM P md ops Q S m (fuel + 1) listed a w := by
  refine ⟨fun h0 => absurd (hr ▸ h0) (by simp), hr ▸ ?_⟩
  intro j hj
  simp at hj
  subst hj
  exact h
theorem twoS (i j : Nat) (hr : Region.ready md ops listed = [i, j]) (h : wpOp P ops Q i (fun a' w'' => (i ≠ m → S w'') ∧ wpAnyM P md ops Q S m fuel (listed.setIfInBounds i true) a' w'') a w)
    (h2 : wpOp P ops Q j (fun a' w'' => (j ≠ m → S w'') ∧ wpAnyM P md ops Q S m fuel (listed.setIfInBounds j true) a' w'') a w) : wpAnyM P md ops Q S m (fuel + 1) listed a w := by
  refine ⟨fun h0 => absurd (hr ▸ h0) (by simp), hr ▸ ?_⟩
  intro k hk
  simp at hk
  rcases hk with rfl | rfl
  · exact h
  · exact h2
/-- The only one that may come up is a call. -/
theorem oneCS (i t : Nat) {oi : Oper} {f : FuncId} {args : Array Value} {R : Ending → World → Prop} (hr : Region.ready md ops listed = [i]) (hi : ops[i]? = some oi) (hd : oi.dst = some t) (hw : Region.wanted oi (yielded ops a.tmps) = true) (hrun : (execOp a.eval oi).run P w = .ok (.enter f args) w)
    (hc : Calls P f args w R) (h : ∀ e w', R e w' → ∃ v, e = .returned v ∧ S w' ∧ wpAnyM P md ops Q S m fuel (listed.setIfInBounds i true) (a.put (some t) v) w') :
    wpAnyM P md ops Q S m (fuel + 1) listed a w := oneS i hr (stepCS i t hi hd hw hrun hc h)
/-- The only one that may come up makes memory. -/
theorem oneVS (i t : Nat) {oi : Oper} {v : Value} (hr : Region.ready md ops listed = [i]) (hi : ops[i]? = some oi) (hd : oi.dst = some t) (hw : Region.wanted oi (yielded ops a.tmps) = true) (hrun : (execOp a.eval oi).run P w = .ok (.value v) w') (hS : S w')
    (h : wpAnyM P md ops Q S m fuel (listed.setIfInBounds i true) (a.put (some t) v) w') : wpAnyM P md ops Q S m (fuel + 1) listed a w := oneS i hr (stepVS i t hi hd hw hrun (fun _ => hS) h)
/-- The last one, which leaves nothing. -/
theorem lastS {oi : Oper} (hr : Region.ready md ops listed = [m]) (hi : ops[m]? = some oi) (hw : Region.wanted oi (yielded ops a.tmps) = true) (hrun : (execOp a.eval oi).run P w = .ok .skip w')
    (hr2 : Region.ready md ops (listed.setIfInBounds m true) = []) (h : Q .normal (a.put oi.dst undef) w') : wpAnyM P md ops Q S m (fuel + 1) listed a w := by
  refine oneS m hr ?_
  unfold wpOp
  simp only [hi, hw, if_true]
  refine .inl ?_
  unfold Oper.wp
  rw [hrun]
  refine ⟨fun h => absurd rfl h, ?_⟩
  cases fuel with
  | zero => exact ⟨hr2, h⟩
  | succ n => exact ⟨fun _ => h, by rw [hr2]; simp⟩
theorem doneS (hr : Region.ready md ops listed = []) (h : Q .normal a w) : wpAnyM P md ops Q S m fuel listed a w := by
  cases fuel with
  | zero => exact ⟨hr, h⟩
  | succ n => exact ⟨fun _ => h, by rw [hr]; simp⟩
theorem region_S {id : Nat} (m : Nat) (S : World → Prop) (hm : P.follows .mixedOrders = true)
    (h : ∀ w', Kept (fun _ => False) w w' → w'.heap = w.heap → wpAnyM P .any ops Q S m ops.size (Array.replicate ops.size false) a w') : (Code.region id ops true).wp P Q a w :=
  wp_region_any hm (wpAny_of_M _ _ _ _ (h _ ⟨rfl, rfl, rfl, Nat.le_refl _, fun _ _ _ => rfl⟩ rfl))
/-- The condition may be chosen behind the draw. -/
theorem region_S0 {id : Nat} (m : Nat) (hm : P.follows .mixedOrders = true)
    (h : ∀ w', Kept (fun _ => False) w w' → w'.heap = w.heap → ∃ S : World → Prop, wpAnyM P .any ops Q S m ops.size (Array.replicate ops.size false) a w') : (Code.region id ops true).wp P Q a w := by
  obtain ⟨S, h⟩ := h { w with drawn := w.drawn + 1 } ⟨rfl, rfl, rfl, Nat.le_refl _, fun _ _ _ => rfl⟩ rfl
  exact wp_region_any hm (wpAny_of_M _ _ _ _ h)
end

end Go.Proofs.Yteffiglfeenokaa
