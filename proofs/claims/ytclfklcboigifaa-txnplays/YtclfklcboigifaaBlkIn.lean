/-
  The laws of Blk inside a fence, and a region that draws its order within a round of a range over a function.
-/
import Derived.RangeFuncNested
import Derived.RangeFuncBound
import Derived.RangeFuncCalls
import Derived.RangeFuncLeaves
import Derived.Shelf.Abstract
import Derived.OwnWalkIn
import Derived.TacticsInMore
import Derived.LoopNIn
import Derived.LoopIn
import Derived.Test.YtclfklcboigifaaBlk
namespace Go.Proofs.Ytclfklcboigifaa
open Go.RowKit Go.Shelf
set_option linter.unusedSimpArgs false
set_option linter.unusedVariables false
set_option maxRecDepth 100000

section
variable {F : Fence} {n : Nat} {P : Program} {ops : Array Oper} {Q : Exit → Act → World → Prop} {a : Act} {w w' : World} {rest : List Oper} {o : Oper} {v : Value}

theorem wpListIn_run (hg : o.guard = none) (hab : o.about P w a.eval = none) (hdef : ∀ c, o.op ≠ .defer c)
    (hr : (execOp a.eval o).run P w = .ok (.value v) w') (h : wpListIn F n P ops Q rest (a.put o.dst v) w') : wpListIn F n P ops Q (o :: rest) a w :=
  wpListIn_plain hg fun K hK => ⟨fun f hf => (by rw [hab] at hf; cases hf), by rw [Oper.semAt_eq _ _ _ hdef, hr]; exact hK _ _ h⟩

theorem wpListIn_run_skip (hg : o.guard = none) (hab : o.about P w a.eval = none) (hdef : ∀ c, o.op ≠ .defer c)
    (hr : (execOp a.eval o).run P w = .ok .skip w') (h : wpListIn F n P ops Q rest (a.put o.dst undef) w') : wpListIn F n P ops Q (o :: rest) a w :=
  wpListIn_plain hg fun K hK => ⟨fun f hf => (by rw [hab] at hf; cases hf), by rw [Oper.semAt_eq _ _ _ hdef, hr]; exact hK _ _ h⟩
end

section
variable {F : Fence} {n : Nat} {P : Program} {ops : Array Oper} {Q : Exit → Act → World → Prop} {a : Act} {w : World} {rest : List Oper} {dst : Option Tmp} {ty : TypeId} {pos : String} {aft : Array Edge}

theorem ai_alloc {t : TypeId} {i : TypeInfo} {z : Value} (hi : P.info? t = some i) (hz : i.zero = some z)
    (h : ∀ w', Blk w' w.heap.size z.cells.toList t → Kept (fun _ => False) w w' → w'.heap.size = w.heap.size + 1 → wpListIn F n P ops Q rest (a.put dst (.pointer (some ⟨w.heap.size, 0, none⟩))) w') :
    wpListIn F n P ops Q (⟨dst, .alloc t, ty, pos, aft, none⟩ :: rest) a w :=
  wpListIn_run rfl rfl (fun _ => by simp) (run_alloc_agg hi hz) (h _ (Blk.newA w _ t) (Kept.alloc _ w _) (by simp))

theorem ai_load {t : TypeId} {x : Operand} {b off m : Nat} {L M : List Value} {e : TypeId} (ht : aggSize P t m) (hx : a.eval x = .pointer (some ⟨b, off, none⟩)) (hb : Blk w b L e) (hl : off + m ≤ L.length) (hM : (L.drop off).take m = M)
    (h : wpListIn F n P ops Q rest (a.put dst (.agg M.toArray)) w) : wpListIn F n P ops Q (⟨dst, .load t x, ty, pos, aft, none⟩ :: rest) a w := by
  subst hM
  exact wpListIn_run rfl rfl (fun _ => by simp) (run_load_agg ht hx hb hl) h

theorem ai_store {t : TypeId} {x y : Operand} {b off m : Nat} {L M : List Value} {e : TypeId} (ht : aggSize P t m) (hx : a.eval x = .pointer (some ⟨b, off, none⟩)) (hy : a.eval y = .agg M.toArray) (hM : M.length = m)
    (h1 : ∀ v ∈ M, v.oneCell' = true) (hb : Blk w b L e) (hl : off + m ≤ L.length)
    (h : ∀ w', Blk w' b (put L off M) e → Kept (fun k => k = b) w w' → w'.heap.size = w.heap.size → wpListIn F n P ops Q rest (a.put dst undef) w') : wpListIn F n P ops Q (⟨dst, .store t x y, ty, pos, aft, none⟩ :: rest) a w := by
  have hr := run_store_agg (P := P) (ρ := a.eval) (dst := dst) (ty := ty) (pos := pos) (aft := aft) (gd := none) ht hx hy hM h1 hb hl
  refine wpListIn_run_skip rfl rfl (fun _ => by simp) hr (h _ ?_ (Kept.setRow (S := fun k => k = b) w b _ rfl) (by simp [World.setRow]))
  have := hb.setRow (L.take off ++ M ++ L.drop (off + m))
  unfold put; rw [hM]; exact this
end

theorem rowsIn_of_rows {l n : Nat} {P : Program} {row : String} {args : Array Value} {w : World} {R : Value → World → Prop} (h : Rows P row args w R) : RowsIn (Fence.wide.inRound l) n P row args w R :=
  fun c cs _ => let ⟨v, w', r, s⟩ := h c cs; ⟨v, w', r, stepsIn_wide.2 s⟩

theorem wpOpIn_of_wpOp {l n : Nat} {P : Program} {ops : Array Oper} {Q : Exit → Act → World → Prop} (hQ : ¬ LetsOut Q) (hnd : ∀ (i : Nat) (o : Oper), ops[i]? = some o → ∀ c, o.op ≠ .defer c)
    {i : Nat} {K K' : Act → World → Prop} {a : Act} {w : World} (hK : ∀ a w, K a w → K' a w) (h : wpOp P ops Q i K a w) : wpOpIn (Fence.wide.inRound l) n P ops Q i K' a w := by
  unfold wpOp at h
  unfold wpOpIn
  cases ho : ops[i]? with
  | none => simp only [ho] at h ⊢; exact hK _ _ h
  | some o =>
    simp only [ho] at h ⊢
    split
    · rename_i hw
      simp only [hw, if_true] at h
      rcases h with h | ⟨_, h⟩
      · refine ⟨fun _ _ => trivial, ?_⟩
        rw [Oper.semAt_eq _ _ _ (hnd i o ho)]
        unfold Oper.wp at h
        generalize (execOp a.eval o).run P w = r at h ⊢
        cases r with
        | ok x w' =>
          cases x <;> simp only [Oper.upon] at h <;> simp only [Oper.uponIn]
          case value v => exact hK _ _ h
          case skip => exact hK _ _ h
          case defer d => exact hK _ _ h
          case enter f args =>
            refine ⟨fun e => (by cases e), CallsIn.inRound l (callsIn_wide.2 (h.mono ?_))⟩
            intro e w'' hh
            cases e with
            | returned v => exact hK _ _ hh
            | panicked c => exact hh
            | outgrown => exact hh
          case row r args => exact ⟨fun e => (by cases e), rowsIn_of_rows (h.mono fun v w'' hh => hK _ _ hh)⟩
        | halt x w' =>
          cases x <;> simp only [Oper.upon] at h <;> simp only [Oper.uponIn]
          all_goals exact h
      · exact absurd h hQ
    · rename_i hw
      simp only [hw] at h
      exact ⟨fun _ _ => trivial, hK _ _ h⟩

theorem wpAnyIn_of_wpAny {l n : Nat} {P : Program} {md : Region.Mode} {ops : Array Oper} {Q : Exit → Act → World → Prop} (hQ : ¬ LetsOut Q) (hnd : ∀ (i : Nat) (o : Oper), ops[i]? = some o → ∀ c, o.op ≠ .defer c) :
    ∀ (fuel : Nat) (listed : Array Bool) (a : Act) (w : World), wpAny P md ops Q fuel listed a w → wpAnyIn (Fence.wide.inRound l) n P md ops Q fuel listed a w
  | 0, _, _, _, h => h
  | fuel + 1, _, _, _, h => ⟨h.1, fun i hi => wpOpIn_of_wpOp hQ hnd (fun a w => wpAnyIn_of_wpAny hQ hnd fuel _ a w) (h.2 i hi)⟩

/-- A region that draws, within a round: reads first under S, then what is left. -/
theorem regionIn_held {l n : Nat} {P : Program} {id : Nat} {ops : Array Oper} {Q : Exit → Act → World → Prop} {S : World → Prop} {a : Act} {w : World} (hm : P.follows .mixedOrders = true) (hQ : ¬ LetsOut Q)
    (hnd : ops.all (fun o => match o.op with | .defer _ => false | _ => true) = true)
    (h : ∀ w', Kept (fun _ => False) w w' → w'.heap = w.heap → wpAnyH P .any ops Q S ops.size (Array.replicate ops.size false) a w') : (Code.region id ops true).wpIn (Fence.wide.inRound l) n P Q a w := by
  refine wpIn_region_any hm (wpAnyIn_of_wpAny hQ ?_ _ _ _ _ (wpAny_of_held _ _ _ _ (h _ ⟨rfl, rfl, rfl, Nat.le_refl _, fun _ _ _ => rfl⟩ rfl)))
  intro i o ho c e
  have := Array.all_eq_true'.1 hnd o (Array.mem_of_getElem? ho)
  rw [e] at this
  cases this

/-- A read, taken first. -/
theorem take_read {P : Program} {md : Region.Mode} {ops : Array Oper} {Q : Exit → Act → World → Prop} {S : World → Prop} {fuel : Nat} {listed : Array Bool} {a : Act} {w : World} (i : Nat) {oi : Oper} {v : Value} (hi : ops[i]? = some oi)
    (hs : Region.noSelect ops = true) (hf : Region.free md ops listed i = true) (hr : (Region.ready md ops listed).contains i = true) (hg : oi.guard = none)
    (hQ : ∀ c a w, Q (.panic c) (a.put oi.dst v) w → Q (.panic c) a w) (hS : S w) (hrun : ∀ w, S w → (execOp a.eval oi).run P w = .ok (.value v) w)
    (h : wpAnyH P md ops Q S fuel (listed.setIfInBounds i true) (a.put oi.dst v) w) : wpAnyH P md ops Q S (fuel + 1) listed a w :=
  wpAnyH_take hi hs hf hr hQ (.inl ⟨by simp [Region.wanted, hg], hrun⟩) hS h

theorem op_value {P : Program} {ops : Array Oper} {Q : Exit → Act → World → Prop} {K : Act → World → Prop} {a : Act} {w w' : World} (i : Nat) {oi : Oper} {v : Value} (hi : ops[i]? = some oi) (hg : oi.guard = none)
    (hrun : (execOp a.eval oi).run P w = .ok (.value v) w') (h : K (a.put oi.dst v) w') : wpOp P ops Q i K a w := by
  unfold wpOp
  simp only [hi, Region.wanted, hg, if_true]
  exact .inl (by unfold Oper.wp; rw [hrun]; exact h)

/-- The only operation that may come. -/
theorem do_one {P : Program} {md : Region.Mode} {ops : Array Oper} {Q : Exit → Act → World → Prop} {S : World → Prop} {fuel : Nat} {listed : Array Bool} {a : Act} {w w' : World} (i : Nat) {oi : Oper} {v : Value} (hi : ops[i]? = some oi)
    (hr : Region.ready md ops listed = [i]) (hg : oi.guard = none) (hrun : (execOp a.eval oi).run P w = .ok (.value v) w') (hS : S w')
    (h : wpAnyH P md ops Q S fuel (listed.setIfInBounds i true) (a.put oi.dst v) w') : wpAnyH P md ops Q S (fuel + 1) listed a w := by
  refine wpAnyH_all hr (by simp) ?_
  intro j hj
  simp at hj
  subst hj
  unfold wpOp
  simp only [hi, Region.wanted, hg, if_true]
  exact .inl (by unfold Oper.wp; rw [hrun]; exact ⟨hS, h⟩)

theorem do_one_skip {P : Program} {md : Region.Mode} {ops : Array Oper} {Q : Exit → Act → World → Prop} {S : World → Prop} {fuel : Nat} {listed : Array Bool} {a : Act} {w w' : World} (i : Nat) {oi : Oper} (hi : ops[i]? = some oi)
    (hr : Region.ready md ops listed = [i]) (hg : oi.guard = none) (hrun : (execOp a.eval oi).run P w = .ok .skip w') (hS : S w')
    (h : wpAnyH P md ops Q S fuel (listed.setIfInBounds i true) (a.put oi.dst undef) w') : wpAnyH P md ops Q S (fuel + 1) listed a w := by
  refine wpAnyH_all hr (by simp) ?_
  intro j hj
  simp at hj
  subst hj
  unfold wpOp
  simp only [hi, Region.wanted, hg, if_true]
  exact .inl (by unfold Oper.wp; rw [hrun]; exact ⟨hS, h⟩)

end Go.Proofs.Ytclfklcboigifaa
