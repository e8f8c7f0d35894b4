/-
  Reg2's laws inside the wide fence: a region that draws its order and holds calls of function values. Nothing of a program's dump is used here.
-/
import Derived.Test.YtclfklcboigifaaFl
namespace Go.Proofs.Ytclfklcboigifaa
open Go.RowKit Go.Shelf
set_option linter.unusedSimpArgs false
set_option linter.unusedVariables false
set_option maxRecDepth 100000

section
variable {n : Nat} {P : Program} {ops : Array Oper} {Q : Exit → Act → World → Prop} {md : Region.Mode} {S S' : World → Prop} {m : Nat}
theorem YieldsIf.wpOpI {i : Nat} {o : Oper} {v : Value} {a : Act} (hi : ops[i]? = some o) (hy : YieldsIf P ops S o v a)
    {K : Act → World → Prop} {w : World} (hS : S w) (h : K (a.put o.dst v) w) : wpOpIn Fence.wide n P ops Q i K a w := by
  unfold Go.wpOpIn
  simp only [hi]
  have hro : Fence.wide.round = none := rfl
  rcases hy with ⟨hw, hv⟩ | ⟨hw, rfl⟩
  · simp only [hw, if_true, Oper.wpIn, hro, Oper.semAt_none, hv w hS, Oper.uponIn]; exact ⟨fun _ _ => trivial, h⟩
  · simp only [hw, Bool.false_eq_true, if_false]; exact ⟨fun _ _ => trivial, h⟩
theorem wpOpI_putIf {j : Nat} {oi oj : Oper} {v : Value} (hj : ops[j]? = some oj) (hap : oi.apart ops oj = true)
    (hsi : ∀ cs b, oi.op ≠ .select cs b) (hsj : ∀ cs b, oj.op ≠ .select cs b)
    (hQ : ∀ c a w, Q (.panic c) (a.put oi.dst v) w → Q (.panic c) a w) {K : Act → World → Prop} {a : Act} {w : World}
    (hy : YieldsIf P ops S oi v a) (h : wpOpIn Fence.wide n P ops Q j K (a.put oi.dst v) w) :
    wpOpIn Fence.wide n P ops Q j (fun a' w' => YieldsIf P ops S oi v a' ∧ K (a'.put oi.dst v) w') a w := by
  have hro : Fence.wide.round = none := rfl
  obtain ⟨h1, h2, h3⟩ := Oper.apart_spec hap
  have keep : ∀ (a : Act), YieldsIf P ops S oi v a → ∀ u, YieldsIf P ops S oi v (a.put oj.dst u) := fun a hy u =>
    hy.of_same (execOp_put oi hsi a oj.dst u h3) (wanted_put oi a oj.dst u h3)
  have keepD : ∀ d, YieldsIf P ops S oi v { a with defers := d :: a.defers } := fun d => hy.of_same rfl rfl
  unfold wpOpIn at *
  simp only [hj] at *
  rw [wanted_put oj a oi.dst v h1] at h
  split
  · rename_i hw
    simp only [hw, if_true] at h
    unfold Oper.wpIn at *
    refine ⟨fun _ _ => trivial, ?_⟩
    have h := h.2
    rw [hro, Oper.semAt_none, execOp_put oj hsj a oi.dst v h1] at h
    rw [hro, Oper.semAt_none]
    generalize (execOp a.eval oj).run P w = r at *
    cases r with
    | ok x w' =>
      cases x <;> simp only [Oper.uponIn] at h ⊢
      case value u => exact ⟨keep a hy u, by rw [← Act.put_comm a v u h2]; exact h⟩
      case skip => exact ⟨keep a hy _, by rw [← Act.put_comm a v undef h2]; exact h⟩
      case defer d =>
        refine ⟨keep _ (keepD d) _, ?_⟩
        rw [← Act.put_comm _ v undef h2, ← Act.put_defers]
        exact h
      case enter f args =>
        refine ⟨h.1, CallsIn.mono h.2 fun e w'' he => ?_⟩
        cases e with
        | returned u => exact ⟨keep a hy u, by rw [← Act.put_comm a v u h2]; exact he⟩
        | panicked c => exact hQ _ _ _ he
        | outgrown => exact he
      case row row args => exact ⟨h.1, RowsIn.mono h.2 fun u w'' he => ⟨keep a hy u, by rw [← Act.put_comm a v u h2]; exact he⟩⟩
      case round l f tmps assign body =>
        refine ⟨h.1, RoundIn.mono h.2 fun e w'' he => ?_⟩
        cases e with
        | returned u => exact ⟨keep a hy u, by rw [← Act.put_comm a v u h2]; exact he⟩
        | panicked c => exact hQ _ _ _ he
        | outgrown => exact he
    | halt x w' =>
      cases x <;> simp only [Oper.uponIn] at h ⊢
      case panic u => exact hQ _ _ _ h
  · rename_i hw
    simp only [hw] at h
    exact ⟨fun _ _ => trivial, keep a hy _, by rw [← Act.put_comm a v undef h2]; exact h.2⟩

def wpAnyMI (n : Nat) (P : Program) (md : Region.Mode) (ops : Array Oper) (Q : Exit → Act → World → Prop) (S : World → Prop) (m : Nat) : Nat → Array Bool → Act → World → Prop
  | 0, listed, a, w => Region.ready md ops listed = [] ∧ Q .normal a w
  | fuel + 1, listed, a, w =>
    (Region.ready md ops listed = [] → Q .normal a w) ∧
    ∀ i ∈ Region.ready md ops listed, wpOpIn Fence.wide n P ops Q i (fun a' w' => (i ≠ m → S w') ∧ wpAnyMI n P md ops Q S m fuel (listed.setIfInBounds i true) a' w') a w
theorem wpAnyIn_of_MI : ∀ (fuel : Nat) (listed : Array Bool) (a : Act) (w : World), wpAnyMI n P md ops Q S m fuel listed a w → wpAnyIn Fence.wide n P md ops Q fuel listed a w
  | 0, _, _, _, h => h
  | fuel + 1, _, _, _, h => ⟨h.1, fun i hi => wpOpIn_mono (fun a' w' h' => wpAnyIn_of_MI fuel _ a' w' h'.2) (h.2 i hi)⟩
theorem wpAnyMI_mono (hS : ∀ w, S' w → S w) : ∀ (fuel : Nat) (listed : Array Bool) (a : Act) (w : World), wpAnyMI n P md ops Q S' m fuel listed a w → wpAnyMI n P md ops Q S m fuel listed a w
  | 0, _, _, _, h => h
  | fuel + 1, _, _, _, h => ⟨h.1, fun i hi => wpOpIn_mono (fun a' w' h' => ⟨fun hm => hS _ (h'.1 hm), wpAnyMI_mono hS fuel _ a' w' h'.2⟩) (h.2 i hi)⟩
theorem wpAnyMI_first {i : Nat} {oi : Oper} {v : Value} (hi : ops[i]? = some oi) (hm : waitsM md ops m i = true) (hsel : ∀ (j : Nat) (o : Oper) cs b, ops[j]? = some o → o.op ≠ .select cs b)
    (hQ : ∀ c a w, Q (.panic c) (a.put oi.dst v) w → Q (.panic c) a w) :
    ∀ (fuel : Nat) (listed : Array Bool) (a : Act) (w : World), apartM md ops i oi listed → i ∈ Region.ready md ops listed → YieldsIf P ops S oi v a → S w →
      wpAnyMI n P md ops Q S m fuel (listed.setIfInBounds i true) (a.put oi.dst v) w → wpAnyMI n P md ops Q S m (fuel + 1) listed a w
  | fuel, listed, a, w, hfree, hr, hy, hS, H => by
    refine ⟨fun h0 => absurd (h0 ▸ hr) (by simp), fun j hj => ?_⟩
    by_cases hji : j = i
    · subst hji
      exact YieldsIf.wpOpI hi hy hS ⟨fun _ => hS, H⟩
    have hj2 := ready_mono hj hji
    match fuel, H with
    | 0, H => exact absurd (H.1 ▸ hj2) (by simp)
    | fuel + 1, H =>
      obtain ⟨hjun, oj, hoj, _⟩ := mem_ready.1 hj
      have hno := no_wait hr hj hoj
      have hjm : j ≠ m := by
        rintro rfl
        simp only [waitsM, Bool.and_eq_true, Bool.or_eq_true, decide_eq_true_eq] at hm
        rcases hm.2 with h | h
        · exact absurd (Array.getElem?_eq_some_iff.1 hoj).1 (by omega)
        · obtain ⟨o, ho, e, he, hb, hon⟩ := Region.waitsFor_spec h
          rw [hoj] at ho
          cases ho
          exact hno e he hb hon
      refine wpOpIn_mono ?_ (wpOpI_putIf hoj (hfree j oj hoj hji hjun hno) (fun cs b => hsel i oi cs b hi) (fun cs b => hsel j oj cs b hoj) hQ hy (H.2 j hj2))
      rintro a' w' ⟨hy', hS', h'⟩
      rw [Array.setIfInBounds_comm _ _ (Ne.symm hji)] at h'
      exact ⟨hS', wpAnyMI_first hi hm hsel hQ fuel _ a' w' (hfree.set hjun) (ready_mono hr (Ne.symm hji)) hy' (hS' hjm) h'⟩
variable {fuel : Nat} {listed : Array Bool} {a : Act} {w w' : World}
/-- A read, taken first. -/
theorem tkI (i t : Nat) {oi : Oper} {v : Value} (hS : S w) (hi : ops[i]? = some oi) (hd : oi.dst = some t) (hm : waitsM md ops m i = true) (hs : Region.noSelect ops = true) (hf : Region.free md ops listed i = true) (hr : (Region.ready md ops listed).contains i = true)
    (hw : Region.wanted oi (yielded ops a.tmps) = true) (hQ : ∀ c a w, Q (.panic c) (a.put oi.dst v) w → Q (.panic c) a w) (hrun : ∀ U, S U → (execOp a.eval oi).run P U = .ok (.value v) U)
    (h : wpAnyMI n P md ops Q S m fuel (listed.setIfInBounds i true) (a.put (some t) v) w) : wpAnyMI n P md ops Q S m (fuel + 1) listed a w := by
  rw [← hd] at h
  exact wpAnyMI_first hi hm (Region.noSelect_spec hs) hQ fuel listed a w (Region.free_spec hi hf) (by simpa using hr) (.inl ⟨hw, hrun⟩) hS h
theorem oneI (i : Nat) (hr : Region.ready md ops listed = [i]) (h : wpOpIn Fence.wide n P ops Q i (fun a' w'' => (i ≠ m → S w'') ∧ wpAnyMI n P md ops Q S m fuel (listed.setIfInBounds i true) a' w'') a w) : wpAnyMI n P md ops Q S m (fuel + 1) listed a w := by
  refine ⟨fun h0 => absurd (hr ▸ h0) (by simp), hr ▸ ?_⟩
  intro j hj
  simp at hj
  subst hj
  exact h
/-- The only one that may come up is a call of a function value with one argument. -/
theorem oneYI (i t : Nat) {ty : TypeId} {pos : String} {aft : Array Edge} {gd : Option (Nat × Bool)} {x y : Operand} {ts : Array TypeId} {yv vy : Value} {R : Ending → World → Prop} (hr : Region.ready md ops listed = [i]) (hi : ops[i]? = some ⟨some t, .call { callee := .value x, args := #[y], argTypes := ts }, ty, pos, aft, gd⟩)
    (hw : Region.wanted ⟨some t, .call { callee := .value x, args := #[y], argTypes := ts }, ty, pos, aft, gd⟩ (yielded ops a.tmps) = true) (hx : a.eval x = yv) (hy : a.eval y = vy)
    (hc : YC P yv #[vy] w R) (h : ∀ e w', R e w' → ∃ v, e = .returned v ∧ (i ≠ m → S w') ∧ wpAnyMI n P md ops Q S m fuel (listed.setIfInBounds i true) (a.put (some t) v) w') :
    wpAnyMI n P md ops Q S m (fuel + 1) listed a w := by
  refine oneI i hr ?_
  have hro : Fence.wide.round = none := rfl
  unfold wpOpIn
  simp only [hi, hw, if_true]
  refine ⟨fun _ _ => trivial, ?_⟩
  rw [Oper.semAt_eq _ _ _ (fun _ => by simp)]
  rcases hc with ⟨gf, lb, rfl, eg, hc⟩ | ⟨l, rfl, hc⟩
  · rw [run_cF1 a.eval hx hy eg]
    refine ⟨fun e => (by cases e), callsIn_wide.2 (hc.mono ?_)⟩
    rintro e w' hR
    obtain ⟨v, rfl, h2⟩ := h e w' hR
    exact h2
  · obtain ⟨fn, tmps, assign, body, hr, hro⟩ := hc (n - 1)
    rw [run_cY1 a.eval hx hy hr]
    refine ⟨fun e => (by cases e), hro.mono ?_⟩
    rintro e w' hR
    obtain ⟨v, rfl, h2⟩ := h e w' hR
    exact h2
theorem oneVI (i t : Nat) {oi : Oper} {v : Value} (hr : Region.ready md ops listed = [i]) (hi : ops[i]? = some oi) (hd : oi.dst = some t) (hw : Region.wanted oi (yielded ops a.tmps) = true) (hdef : ∀ c, oi.op ≠ .defer c) (hrun : (execOp a.eval oi).run P w = .ok (.value v) w') (hS : i ≠ m → S w')
    (h : wpAnyMI n P md ops Q S m fuel (listed.setIfInBounds i true) (a.put (some t) v) w') : wpAnyMI n P md ops Q S m (fuel + 1) listed a w := by
  refine oneI i hr ?_
  unfold wpOpIn
  simp only [hi, hw, if_true]
  refine ⟨fun _ _ => trivial, ?_⟩
  rw [Oper.semAt_eq _ _ _ hdef, hrun]
  rw [← hd] at h
  exact ⟨hS, h⟩
theorem doneI (hr : Region.ready md ops listed = []) (h : Q .normal a w) : wpAnyMI n P md ops Q S m fuel listed a w := by
  cases fuel with
  | zero => exact ⟨hr, h⟩
  | succ n => exact ⟨fun _ => h, by rw [hr]; simp⟩
/-- The condition may be chosen behind the draw. -/
theorem region_I {id : Nat} (m : Nat) (hm : P.follows .mixedOrders = true)
    (h : ∀ w', Kept (fun _ => False) w w' → w'.heap = w.heap → ∃ S : World → Prop, wpAnyMI n P .any ops Q S m ops.size (Array.replicate ops.size false) a w') : (Code.region id ops true).wpIn Fence.wide n P Q a w := by
  obtain ⟨S, h⟩ := h { w with drawn := w.drawn + 1 } ⟨rfl, rfl, rfl, Nat.le_refl _, fun _ _ _ => rfl⟩ rfl
  exact wpIn_region_any hm (wpAnyIn_of_MI _ _ _ _ h)
end
end Go.Proofs.Ytclfklcboigifaa
