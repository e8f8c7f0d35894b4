/-
  A range over a function, where the iterator may itself be one that ranges over another: a contract of iterators with the blocks that the body may change; the law of such a loop; a call of a function value, be it a function or a loop's round. Nothing of a program's dump is used here.
-/
import Derived.Test.YtbbhchmdggfncaaJ04
import Derived.Test.YtbbhchmdggfncaaJ03
import Derived.Maps.AppendAt
import Derived.Laws.OwnMore
import Derived.Lib.SliceRun
namespace Go.Proofs.Ytbbhchmdggfncaa
open Go.RowKit Go.Shelf
set_option linter.unusedSimpArgs false
set_option linter.unusedVariables false
set_option maxRecDepth 100000

/-- A call of a function value. -/
def YC (P : Program) (yv : Value) (args : Array Value) (W : World) (R : Ending → World → Prop) : Prop :=
  (∃ g lb, yv = .func (.func g) #[] lb ∧ (∀ args w, (callFunc g args).run P w = .ok (.enter g args) w) ∧ Calls P g (args ++ lb) W R) ∨ (∃ l, yv = .func (.yield l) #[] #[] ∧ ∀ n, YieldAt Fence.wide n P l args W R)
theorem YC.mono {P : Program} {yv : Value} {args : Array Value} {W : World} {R R' : Ending → World → Prop} (h : YC P yv args W R) (hr : ∀ e w, R e w → R' e w) : YC P yv args W R' := by
  rcases h with ⟨g, lb, he, hg, hc⟩ | ⟨l, he, hc⟩
  · exact .inl ⟨g, lb, he, hg, hc.mono hr⟩
  · exact .inr ⟨l, he, fun n => (hc n).mono hr⟩

def IsCells (W : World) (k : Nat) : Prop := ∃ c t f, W.heap[k]? = some (.cells c t f)
theorem Kept.grown {w w' : World} (h : Kept (fun _ => False) w w') : w.grownBy w' none := ⟨h.os, h.tape, h.output, h.size, fun k hk _ => h.block k hk (fun h => h)⟩
theorem ownU_put {B : Nat} {I : World → Prop} (h : OwnFrom B (fun (_ : Unit) W => I W)) {W : World} {l : Nat} {o : Obj} (o' : Obj) (hi : I W) (hB : B ≤ l) (hl : W.heap[l]? = some o) (ho : o.isCells = false) : I (W.putObj l o') := OwnFrom.putObj (s := ()) h o' hi hB hl ho
theorem Kept.putObj (W : World) (l : Nat) (o : Obj) : Kept (fun k => k = l) W (W.putObj l o) := by
  have h := Kept.of_grown (grownBy_putObj' W l o)
  exact h.mono (fun i _ e => by cases e; rfl)
section
variable {P : Program} {α : Type} {g : Operand} {ps : Array Tmp} {assign body : Code} {Q : Exit → Act → World → Prop} {a : Act} {w : World}
end

section
variable {n : Nat} {P : Program} {ops : Array Oper} {Q : Exit → Act → World → Prop} {a : Act} {w : World} {rest : List Oper} {d : Nat} {ty : TypeId} {pos : String} {aft : Array Edge} {x y z : Operand} {ts : Array TypeId}
theorem run_callF (ρ : Operand → Value) {dst : Option Tmp} {gd : Option (Nat × Bool)} {gf : Nat} {lb : Array Value} {vy vz : Value} (hx : ρ x = .func (.func gf) #[] lb) (hy : ρ y = vy) (hz : ρ z = vz) (eg : ∀ args w, (callFunc gf args).run P w = .ok (.enter gf args) w) :
    (execOp ρ ⟨dst, .call { callee := .value x, args := #[y, z], argTypes := ts }, ty, pos, aft, gd⟩).run P w = .ok (.enter gf (#[vy, vz] ++ lb)) w := by
  simp [execOp, resolve, invoke, hx, hy, hz, go_sem, eg]
theorem run_callY (ρ : Operand → Value) {dst : Option Tmp} {gd : Option (Nat × Bool)} {l : Nat} {vy vz : Value} {nx : Next} (hx : ρ x = .func (.yield l) #[] #[]) (hy : ρ y = vy) (hz : ρ z = vz) (hr : (Instr.yield l #[vy, vz]).run P w = .ok nx w) :
    (execOp ρ ⟨dst, .call { callee := .value x, args := #[y, z], argTypes := ts }, ty, pos, aft, gd⟩).run P w = .ok nx w := by
  simp [execOp, resolve, invoke, hx, hy, hz, go_sem, hr]
theorem stopi_val {F : Fence} {dst : Option Tmp} {aq : Array Operand} (h : Hid (wpListIn F n P ops Q (⟨dst, .call { callee := .value x, args := aq, argTypes := ts }, ty, pos, aft, none⟩ :: rest) a w)) : wpListIn F n P ops Q (⟨dst, .call { callee := .value x, args := aq, argTypes := ts }, ty, pos, aft, none⟩ :: rest) a w := h.out
theorem stopi_store {F : Fence} {dst : Option Tmp} (t : TypeId) (h : Hid (wpListIn F n P ops Q (⟨dst, .store t x y, ty, pos, aft, none⟩ :: rest) a w)) : wpListIn F n P ops Q (⟨dst, .store t x y, ty, pos, aft, none⟩ :: rest) a w := h.out
theorem stopi_bs {F : Fence} {dst : Option Tmp} (t : TypeId) {m : Nat} {es : Array (Nat × Operand)} (h : Hid (wpListIn F n P ops Q (⟨dst, .buildSlice t m es, ty, pos, aft, none⟩ :: rest) a w)) : wpListIn F n P ops Q (⟨dst, .buildSlice t m es, ty, pos, aft, none⟩ :: rest) a w := h.out
theorem stopi_app {F : Fence} {dst : Option Tmp} (t u : TypeId) (h : Hid (wpListIn F n P ops Q (⟨dst, .call { callee := .builtin .append, args := #[x, y], argTypes := #[t, u] }, ty, pos, aft, none⟩ :: rest) a w)) : wpListIn F n P ops Q (⟨dst, .call { callee := .builtin .append, args := #[x, y], argTypes := #[t, u] }, ty, pos, aft, none⟩ :: rest) a w := h.out
theorem ai_yc_in {lo : Nat} {yv vy vz : Value} {R : Ending → World → Prop} (hx : a.eval x = yv) (hy : a.eval y = vy) (hz : a.eval z = vz) (hc : YC P yv #[vy, vz] w R)
    (h : ∀ e w', R e w' → ∃ v, e = .returned v ∧ wpListIn (Fence.wide.inRound lo) n P ops Q rest (a.put (some d) v) w') :
    wpListIn (Fence.wide.inRound lo) n P ops Q (⟨some d, .call { callee := .value x, args := #[y, z], argTypes := ts }, ty, pos, aft, none⟩ :: rest) a w := by
  refine wpListIn_plain rfl fun K hK => ⟨fun _ _ => trivial, ?_⟩
  rw [Oper.semAt_eq _ _ _ (fun _ => by simp)]
  rcases hc with ⟨gf, lb, rfl, eg, hc⟩ | ⟨l, rfl, hc⟩
  · rw [run_callF a.eval hx hy hz eg]
    refine ⟨fun e => (by cases e), CallsIn.inRound lo (callsIn_wide.2 (hc.mono ?_))⟩
    rintro e w' hR
    obtain ⟨v, rfl, h2⟩ := h e w' hR
    exact hK _ _ h2
  · obtain ⟨fn, tmps, assign, body, hr, hro⟩ := hc (n - 1)
    rw [run_callY a.eval hx hy hz hr]
    refine ⟨fun e => (by cases e), (hro.mono ?_ : RoundIn Fence.wide (n - 1) P l fn tmps assign body w _)⟩
    rintro e w' hR
    obtain ⟨v, rfl, h2⟩ := h e w' hR
    exact hK _ _ h2
end

end Go.Proofs.Ytbbhchmdggfncaa


/-
  Sequences that are made of others: what a sequence hands on, to whom, and what both may change. A sequence reads the blocks X and changes C; whoever takes what it hands on changes F. Nothing of a program's dump is used here.
-/
namespace Go.Proofs.Ytbbhchmdggfncaa
open Go.RowKit Go.Shelf
set_option linter.unusedSimpArgs false
set_option linter.unusedVariables false
set_option maxRecDepth 100000

abbrev NSet := Nat → Prop
/-- A function value that is not nil. -/
def IsFn (v : Value) : Prop := ∃ fn lb, v = .func fn #[] lb
/-- I speaks of the blocks F, and of such blocks below B as are none of C. -/
structure Stab (B : Nat) (C : NSet) (I : NSet → World → Prop) : Prop where
  lt : ∀ F W, I F W → ∀ k, F k → k < W.heap.size
  kept : ∀ F W W' S, I F W → Kept S W W' → (∀ k, S k → ¬ F k) → (∀ k, S k → k < B → C k) → I F W'
theorem Stab.none {B : Nat} {C : NSet} {I : NSet → World → Prop} (h : Stab B C I) {F : NSet} {W W' : World} (hi : I F W) (hk : Kept (fun _ => False) W W') : I F W' := h.kept F W W' _ hi hk (fun _ h => h.elim) (fun _ h => h.elim)
/-- Something stands for x: the value v, with the blocks G that go with it. -/
abbrev EncR (α : Type) := α → Value → NSet → World → Prop
def EOk {α : Type} (X : NSet) (E : EncR α) : Prop := ∀ x v G W W' S, E x v G W → Kept S W W' → (∀ k, S k → ¬ G k ∧ ¬ X k) → E x v G W'

/-- What one is left with behind a call of the taker. -/
def Handed {α : Type} (J Jx : List α → NSet → World → Prop) (pre : List α) (F G : NSet) (W : World) (e : Ending) (W' : World) : Prop :=
  ∃ F', ((e = .returned (.bool true) ∧ J pre F' W') ∨ (e = .returned (.bool false) ∧ Jx pre F' W')) ∧ Kept (fun k => F k ∨ G k) W W' ∧ ∀ k, F' k → F k ∨ G k ∨ W.heap.size ≤ k
def Takes (P : Program) {α : Type} (E : EncR α) (xs : List α) (B : Nat) (F0 : NSet) (tv : Value) (J Jx : List α → NSet → World → Prop) : Prop :=
  ∀ pre x post F G v W, xs = pre ++ x :: post → J pre F W → B ≤ W.heap.size → (∀ k, F k → F0 k ∨ B ≤ k) → E x v G W → (∀ k, G k → ¬ F k ∧ B ≤ k ∧ k < W.heap.size) →
    YC P tv #[v] W (Handed J Jx (pre ++ [x]) F G W)
def FEnd {α : Type} (J Jx : List α → NSet → World → Prop) (xs : List α) (C : NSet) (Post : Bool → List α → World → Prop) (F0 : NSet) (W : World) (b : Bool) (W' : World) : Prop :=
  Kept (fun k => F0 k ∨ C k) W W' ∧ ((b = true ∧ ∃ F', J xs F' W' ∧ (∀ k, F' k → F0 k ∨ W.heap.size ≤ k) ∧ Post true xs W') ∨
    (b = false ∧ ∃ pre F', (∃ post, xs = pre ++ post) ∧ Jx pre F' W' ∧ (∀ k, F' k → F0 k ∨ W.heap.size ≤ k) ∧ Post false pre W'))
def FEnded {α : Type} (J Jx : List α → NSet → World → Prop) (xs : List α) (C : NSet) (Post : Bool → List α → World → Prop) (F0 : NSet) (W : World) (e : Ending) (W' : World) : Prop :=
  (∃ v, e = .returned v) ∧ ∃ b, FEnd J Jx xs C Post F0 W b W'
/-- In the world W the sequence sv hands xs on, one after the other, till it is told to end. -/
def FSeqAt (P : Program) (sv : Value) {α : Type} (E : EncR α) (xs : List α) (X C : NSet) (Post : Bool → List α → World → Prop) (W : World) : Prop :=
  ∀ (tv : Value) (J Jx : List α → NSet → World → Prop) (F0 : NSet),
    IsFn tv → (∀ pre, Stab W.heap.size C (J pre)) → (∀ pre, Stab W.heap.size C (Jx pre)) → (∀ k, F0 k → ¬ X k ∧ ¬ C k) →
    Takes P E xs W.heap.size F0 tv J Jx → J [] F0 W → YC P sv #[tv] W (FEnded J Jx xs C Post F0 W)
structure SeqOk (P : Program) (sv : Value) {α : Type} (E : EncR α) (xs : List α) (X C : NSet) (Post : Bool → List α → World → Prop) (W : World) : Prop where
  fn : IsFn sv ∨ (sv = .nilFunc ∧ xs = [] ∧ ∀ W, Post true [] W)
  lt : ∀ k, X k ∨ C k → k < W.heap.size
  apart : ∀ k, X k → ¬ C k
  enc : EOk X E
  post : ∀ b pre W W' S, Post b pre W → Kept S W W' → (∀ k, S k → ¬ C k) → Post b pre W'
  run : IsFn sv → ∀ W' S, Kept S W W' → (∀ k, S k → ¬ X k ∧ ¬ C k) → FSeqAt P sv E xs X C Post W'
theorem SeqOk.kept {P : Program} {sv : Value} {α : Type} {E : EncR α} {xs : List α} {X C : NSet} {Post : Bool → List α → World → Prop} {W W' : World} {S : NSet} (h : SeqOk P sv E xs X C Post W) (hk : Kept S W W') (hS : ∀ k, S k → ¬ X k ∧ ¬ C k) : SeqOk P sv E xs X C Post W' :=
  ⟨h.fn, fun k hx => Nat.lt_of_lt_of_le (h.lt k hx) hk.size, h.apart, h.enc, h.post, fun hf W'' S' hk' hS' => h.run hf W'' (fun k => S k ∨ S' k) ((hk.mono (T := fun k => S k ∨ S' k) (fun _ _ h => .inl h)).trans hk' (fun _ _ h => .inr h)) (fun k hs => hs.elim (hS k) (hS' k))⟩
theorem SeqOk.cells {P : Program} {sv : Value} {α : Type} {E : EncR α} {xs : List α} {X C : NSet} {Post : Bool → List α → World → Prop} {W : World} (h : SeqOk P sv E xs X C Post W) : sv.cells = #[sv] := by
  rcases h.fn with ⟨_, _, rfl⟩ | ⟨rfl, _⟩ <;> rfl
/-- A nil sequence. -/
theorem SeqOk.nil (P : Program) {α : Type} (E : EncR α) (X : NSet) (hE : EOk X E) (W : World) (hX : ∀ k, X k → k < W.heap.size) : SeqOk P .nilFunc E [] X (fun _ => False) (fun _ _ _ => True) W :=
  ⟨.inr ⟨rfl, rfl, fun _ => trivial⟩, fun k h => h.elim (hX k) (fun h => h.elim), fun _ _ h => h, hE, fun _ _ _ _ _ _ _ _ => trivial, fun ⟨_, _, h⟩ => by cases h⟩
/-- A function of one value that changes nothing. -/
def FnOk (P : Program) (fv : Value) {α β : Type} (E : EncR α) (D : β → Value) (f : α → β) (X : NSet) (W : World) : Prop :=
  ∀ W' S, Kept S W W' → (∀ k, S k → ¬ X k) → ∀ x v G, E x v G W' → YC P fv #[v] W' (fun e W'' => e = .returned (D (f x)) ∧ Kept (fun _ => False) W' W'')
theorem FnOk.kept {P : Program} {fv : Value} {α β : Type} {E : EncR α} {D : β → Value} {f : α → β} {X : NSet} {W W' : World} {S : NSet} (h : FnOk P fv E D f X W) (hk : Kept S W W') (hS : ∀ k, S k → ¬ X k) : FnOk P fv E D f X W' :=
  fun W'' S' hk' hS' => h W'' (fun k => S k ∨ S' k) ((hk.mono (T := fun k => S k ∨ S' k) (fun _ _ h => .inl h)).trans hk' (fun _ _ h => .inr h)) (fun k hs => hs.elim (hS k) (hS' k))
theorem FnOk.at {P : Program} {fv : Value} {α β : Type} {E : EncR α} {D : β → Value} {f : α → β} {X : NSet} {W : World} (h : FnOk P fv E D f X W) {x : α} {v : Value} {G : NSet} (hE : E x v G W) : YC P fv #[v] W (fun e W'' => e = .returned (D (f x)) ∧ Kept (fun _ => False) W W'') := h W _ (Kept.refl (fun _ => False) W) (fun _ h => h.elim) x v G hE
theorem FnOk.of {P : Program} {g : Nat} {lb : Array Value} {α β : Type} {E : EncR α} {D : β → Value} {f : α → β} {X : NSet} {W : World} (eg : ∀ args w, (callFunc g args).run P w = .ok (.enter g args) w)
    (h : ∀ W' S, Kept S W W' → (∀ k, S k → ¬ X k) → ∀ x v G, E x v G W' → Calls P g (#[v] ++ lb) W' (fun e W'' => e = .returned (D (f x)) ∧ Kept (fun _ => False) W' W'')) : FnOk P (.func (.func g) #[] lb) E D f X W :=
  fun W' S hk hS x v G hE => .inl ⟨g, lb, rfl, eg, h W' S hk hS x v G hE⟩

/-- More is said beside I: a block that nobody changes. -/
theorem Stab.blk {B B' : Nat} {C : NSet} {I : NSet → World → Prop} {b : Nat} {L : List Value} {t : TypeId} (h : Stab B C I) (hB : B ≤ B') (hb : b < B') (hc : ¬ C b) : Stab B' C (fun F W => I F W ∧ Blk W b L t ∧ ¬ F b) :=
  ⟨fun F W hi => h.lt F W hi.1, fun F W W' S hi hk h1 h2 => ⟨h.kept F W W' S hi.1 hk h1 (fun k hs hl => h2 k hs (by omega)), hk.blk hi.2.1 (fun hs => hc (h2 b hs hb)), hi.2.2⟩⟩
/-- A block that the owner of I changes. -/
theorem Stab.own {B B' : Nat} {C : NSet} {I : NSet → World → Prop} {b : Nat} {L : List Value} {t : TypeId} (h : Stab B C I) (hB : B ≤ B') : Stab B' C (fun F W => ∃ Fi, F = (fun k => Fi k ∨ k = b) ∧ I Fi W ∧ Blk W b L t ∧ ¬ Fi b) := by
  refine ⟨?_, ?_⟩
  · rintro F W ⟨Fi, rfl, hi, hb, hn⟩ k (hk | hk)
    · exact h.lt Fi W hi k hk
    · rw [hk]; exact hb.lt
  · rintro F W W' S ⟨Fi, rfl, hi, hb, hn⟩ hk h1 h2
    exact ⟨Fi, rfl, h.kept Fi W W' S hi hk (fun k hs hf => h1 k hs (.inl hf)) (fun k hs hl => h2 k hs (by omega)), hk.blk hb (fun hs => h1 b hs (.inr rfl)), hn⟩
theorem Stab.le {B B' : Nat} {C : NSet} {I : NSet → World → Prop} (h : Stab B C I) (hB : B ≤ B') : Stab B' C I :=
  ⟨h.lt, fun F W W' S hi hk h1 h2 => h.kept F W W' S hi hk h1 (fun k hs hl => h2 k hs (by omega))⟩

section
variable {n : Nat} {P : Program} {ops : Array Oper} {Q : Exit → Act → World → Prop} {a : Act} {w : World} {rest : List Oper} {d : Nat} {ty : TypeId} {pos : String} {aft : Array Edge} {x y : Operand} {ts : Array TypeId} {gd : Option (Nat × Bool)}
theorem run_cF1 (ρ : Operand → Value) {dst : Option Tmp} {gf : Nat} {lb : Array Value} {vy : Value} (hx : ρ x = .func (.func gf) #[] lb) (hy : ρ y = vy) (eg : ∀ args w, (callFunc gf args).run P w = .ok (.enter gf args) w) :
    (execOp ρ ⟨dst, .call { callee := .value x, args := #[y], argTypes := ts }, ty, pos, aft, gd⟩).run P w = .ok (.enter gf (#[vy] ++ lb)) w := by
  simp [execOp, resolve, invoke, hx, hy, go_sem, eg]
theorem run_cY1 (ρ : Operand → Value) {dst : Option Tmp} {l : Nat} {vy : Value} {nx : Next} (hx : ρ x = .func (.yield l) #[] #[]) (hy : ρ y = vy) (hr : (Instr.yield l #[vy]).run P w = .ok nx w) :
    (execOp ρ ⟨dst, .call { callee := .value x, args := #[y], argTypes := ts }, ty, pos, aft, gd⟩).run P w = .ok nx w := by
  simp [execOp, resolve, invoke, hx, hy, go_sem, hr]
/-- A call of a function value with one argument, guarded or not. -/
theorem ai_yc1 {yv vy : Value} {R : Ending → World → Prop} (hx : a.eval x = yv) (hy : a.eval y = vy) (hw : Region.wanted ⟨some d, .call { callee := .value x, args := #[y], argTypes := ts }, ty, pos, aft, gd⟩ (yielded ops a.tmps) = true) (hc : YC P yv #[vy] w R)
    (h : ∀ e w', R e w' → ∃ v, e = .returned v ∧ wpListIn Fence.wide n P ops Q rest (a.put (some d) v) w') :
    wpListIn Fence.wide n P ops Q (⟨some d, .call { callee := .value x, args := #[y], argTypes := ts }, ty, pos, aft, gd⟩ :: rest) a w := by
  refine wpListIn_step fun K hK => ?_
  rw [if_pos hw]
  refine ⟨fun _ _ => trivial, ?_⟩
  rw [Oper.semAt_eq _ _ _ (fun _ => by simp)]
  rcases hc with ⟨gf, lb, rfl, eg, hc⟩ | ⟨l, rfl, hc⟩
  · rw [run_cF1 a.eval hx hy eg]
    refine ⟨fun e => (by cases e), callsIn_wide.2 (hc.mono ?_)⟩
    rintro e w' hR
    obtain ⟨v, rfl, h2⟩ := h e w' hR
    exact hK _ _ h2
  · obtain ⟨fn, tmps, assign, body, hr, hro⟩ := hc (n - 1)
    rw [run_cY1 a.eval hx hy hr]
    refine ⟨fun e => (by cases e), hro.mono ?_⟩
    rintro e w' hR
    obtain ⟨v, rfl, h2⟩ := h e w' hR
    exact hK _ _ h2
theorem stopi_val1 {F : Fence} {dst : Option Tmp} {t : Nat} {aq : Array Operand} (h : Hid (wpListIn F n P ops Q (⟨dst, .call { callee := .value (.tmp t), args := aq, argTypes := ts }, ty, pos, aft, gd⟩ :: rest) a w)) : wpListIn F n P ops Q (⟨dst, .call { callee := .value (.tmp t), args := aq, argTypes := ts }, ty, pos, aft, gd⟩ :: rest) a w := h.out
theorem put_none (a : Act) (v : Value) : a.put none v = a := rfl
theorem ai_box {F : Fence} {dst : Option Tmp} {t : TypeId} {v : Value} (hx : a.eval x = v)
    (h : ∀ w', Blk w' w.heap.size v.cells.toList t → Kept (fun _ => False) w w' → w'.heap.size = w.heap.size + 1 → wpListIn F n P ops Q rest (a.put dst (.pointer (some ⟨w.heap.size, 0, none⟩))) w') :
    wpListIn F n P ops Q (⟨dst, .box t x, ty, pos, aft, none⟩ :: rest) a w :=
  wpListIn_run rfl rfl (fun _ => by simp) run_box_agg (by rw [hx]; exact h _ (Blk.newA w _ t) (Kept.alloc _ w _) (by simp))
end

section
variable {P : Program} {w : World} {ty : TypeId} {pos : String} {aft : Array Edge} {x y : Operand}
/-- A value of one cell is stored. -/
theorem run_store_one {ρ : Operand → Value} {dst : Option Tmp} {gd : Option (Nat × Bool)} {t : TypeId} {i : TypeInfo} {b off : Nat} {L : List Value} {v : Value} {e : TypeId} (hi : P.info? t = some i) (hs : i.size = 1) (hx : ρ x = .pointer (some ⟨b, off, none⟩)) (hy : ρ y = v) (hv : v.cells = #[v]) (h1 : v.oneCell' = true) (hb : Blk w b L e) (hl : off < L.length) :
    (execOp ρ ⟨dst, .store t x y, ty, pos, aft, gd⟩).run P w = .ok .skip (w.setRow b (L.set off v).toArray) := by
  have hs1 := run_storeCells_at (P := P) b off e [v] 0 L.toArray w hb (by simp; omega) (by simpa using h1)
  have e1 : L.take off ++ v :: L.drop (off + 1) = L.set off v := by
    rw [List.set_eq_take_append_cons_drop, if_pos hl]
  simp [execOp, Instr.storeAt, hx, hy, Instr.sureAddr, storeVar, hv, sizeOf, typeInfo, hi, hs]
  simp [e1] at hs1
  rw [hs1]
  rfl
theorem ai_store1 {F : Fence} {n : Nat} {ops : Array Oper} {Q : Exit → Act → World → Prop} {a : Act} {rest : List Oper} {dst : Option Tmp} {t : TypeId} {i : TypeInfo} {b off : Nat} {L : List Value} {v : Value} {e : TypeId} (hi : P.info? t = some i) (hs : i.size = 1) (hx : a.eval x = .pointer (some ⟨b, off, none⟩)) (hy : a.eval y = v) (hv : v.cells = #[v]) (h1 : v.oneCell' = true) (hb : Blk w b L e) (hl : off < L.length)
    (h : ∀ w', Blk w' b (L.set off v) e → Kept (fun k => k = b) w w' → w'.heap.size = w.heap.size → wpListIn F n P ops Q rest (a.put dst undef) w') : wpListIn F n P ops Q (⟨dst, .store t x y, ty, pos, aft, none⟩ :: rest) a w :=
  wpListIn_run_skip rfl rfl (fun _ => by simp) (run_store_one hi hs hx hy hv h1 hb hl) (h _ (hb.setRow _) (Kept.setRow (S := fun k => k = b) w b _ rfl) (by simp [World.setRow]))
theorem aw_store1 {ops : Array Oper} {Q : Exit → Act → World → Prop} {a : Act} {rest : List Oper} {dst : Option Tmp} {t : TypeId} {i : TypeInfo} {b off : Nat} {L : List Value} {v : Value} {e : TypeId} (hi : P.info? t = some i) (hs : i.size = 1) (hx : a.eval x = .pointer (some ⟨b, off, none⟩)) (hy : a.eval y = v) (hv : v.cells = #[v]) (h1 : v.oneCell' = true) (hb : Blk w b L e) (hl : off < L.length)
    (h : ∀ w', Blk w' b (L.set off v) e → Kept (fun k => k = b) w w' → w'.heap.size = w.heap.size → wpList P ops Q rest (a.put dst undef) w') : wpList P ops Q (⟨dst, .store t x y, ty, pos, aft, none⟩ :: rest) a w :=
  wpList_run_skip rfl (run_store_one hi hs hx hy hv h1 hb hl) (h _ (hb.setRow _) (Kept.setRow (S := fun k => k = b) w b _ rfl) (by simp [World.setRow]))
end

end Go.Proofs.Ytbbhchmdggfncaa


/-
  Slices of one's own, and slices that are read, of elements of one cell each; append. Nothing of a program's dump is used here.
-/
namespace Go.Proofs.Ytbbhchmdggfncaa
open Go.RowKit Go.Shelf
set_option linter.unusedSimpArgs false
set_option linter.unusedVariables false
set_option maxRecDepth 100000

theorem ownsRow_kept {S : Nat → Prop} {w w' : World} {e : TypeId} {sz n : Nat} {v : Value} {xs : List Value} (h : w.ownsRow 0 e sz v n xs) (hk : Kept S w w') (hn : ∀ k, v.ownBlock = some k → ¬ S k) : w'.ownsRow 0 e sz v n xs := by
  obtain ⟨h1, h2⟩ := h
  refine ⟨h1, ?_⟩
  rcases h2 with h2 | ⟨g, cap, cur, rfl, hb, hg, hr⟩
  · exact .inl h2
  · exact .inr ⟨g, cap, cur, rfl, hb, (hk.block g (Array.getElem?_eq_some_iff.1 hg).1 (hn g rfl)).trans hg, hr⟩
theorem ownsRow_blk_ne {w : World} {e t : TypeId} {sz n b : Nat} {v : Value} {xs L : List Value} (h : w.ownsRow 0 e sz v n xs) (hb : Blk w b L t) (ht : t ≠ e) : v.ownBlock ≠ some b := by
  intro he
  rcases h.2 with ⟨rfl, _⟩ | ⟨g, cap, cur, rfl, _, hg, _⟩
  · simp [Value.ownBlock] at he
  · simp [Value.ownBlock] at he
    subst he
    unfold Blk at hb
    rw [hg] at hb
    simp at hb
    exact ht hb.2.symm
theorem ownsRow_blk {w : World} {e : TypeId} {sz n : Nat} {v : Value} {xs : List Value} (h : w.ownsRow 0 e sz v n xs) : (v = .slice none 0 0 ∧ n = 0 ∧ xs = []) ∨ ∃ g cap C, v = .slice (some ⟨g, 0, none⟩) n cap ∧ Blk w g (xs ++ C) e ∧ n ≤ cap ∧ cap ≤ maxLen ∧ C.length = (cap - n) * sz := by
  have hl := h.1
  rcases h.2 with ⟨rfl, rfl⟩ | ⟨g, cap, cur, rfl, _, hg, hnc, hcm, hcs, htake⟩
  · exact .inl ⟨rfl, rfl, List.eq_nil_of_length_eq_zero (by omega)⟩
  · refine .inr ⟨g, cap, cur.toList.drop (n * sz), rfl, ?_, hnc, hcm, ?_⟩
    · have : xs ++ cur.toList.drop (n * sz) = cur.toList := by rw [← htake]; exact List.take_append_drop _ _
      rw [this]
      unfold Blk
      simpa using hg
    · rw [List.length_drop, Array.length_toList, hcs, Nat.sub_mul]
theorem ownsRow_of {w : World} {e : TypeId} {sz n g cap : Nat} {xs C : List Value} (hb : Blk w g (xs ++ C) e) (hl : xs.length = n * sz) (hnc : n ≤ cap) (hcm : cap ≤ maxLen) (hC : C.length = (cap - n) * sz) : w.ownsRow 0 e sz (.slice (some ⟨g, 0, none⟩) n cap) n xs := by
  refine ⟨hl, .inr ⟨g, cap, (xs ++ C).toArray, rfl, Nat.zero_le _, hb, hnc, hcm, ?_, ?_⟩⟩
  · simp [hl, hC, ← Nat.add_mul]
    rw [show n + (cap - n) = cap by omega]
  · simp [← hl]
theorem ownsRow_lt {w : World} {e : TypeId} {sz n : Nat} {v : Value} {xs : List Value} (h : w.ownsRow 0 e sz v n xs) : ∀ k, v.ownBlock = some k → k < w.heap.size := fun k hk => (h.lt k hk).2
theorem ownsRow_slice {w : World} {e : TypeId} {sz n : Nat} {v : Value} {xs : List Value} (h : w.ownsRow 0 e sz v n xs) : ∃ ao c, v = .slice ao n c := by
  rcases ownsRow_blk h with ⟨rfl, rfl, _⟩ | ⟨g, cap, C, rfl, _⟩
  · exact ⟨_, _, rfl⟩
  · exact ⟨_, _, rfl⟩
theorem r_app {P : Program} {ρ : Operand → Value} {w w' : World} {dst : Option Tmp} {ty t1 t2 : TypeId} {pos : String} {aft : Array Edge} {gd : Option (Nat × Bool)} {x y : Operand} {v u v' : Value} (hx : ρ x = v) (hy : ρ y = u) (hr : (Builtin.append_ #[t1, t2] ty #[v, u]).run P w = .ok v' w') :
    (execOp ρ ⟨dst, .call { callee := .builtin .append, args := #[x, y], argTypes := #[t1, t2] }, ty, pos, aft, gd⟩).run P w = .ok (.value v') w' := by
  simp [execOp, resolve, invoke, builtin, hx, hy, hr]
/-- v is a slice that holds the values vs. -/
def SrcV (W : World) (v : Value) (vs : List Value) : Prop := ∃ ao cap, v = .slice ao vs.length cap ∧ vs.length ≤ cap ∧ (0 < vs.length → ∃ g off, ao = some ⟨g, off, none⟩ ∧ Cells W g off vs) ∧ (ao = none → cap = 0)
/-- The block that a slice lies in. -/
def vX (v : Value) (k : Nat) : Prop := ∃ off n c, v = .slice (some ⟨k, off, none⟩) n c
theorem SrcV.kept {S : NSet} {W W' : World} {v : Value} {vs : List Value} (h : SrcV W v vs) (hk : Kept S W W') (hn : ∀ k, vX v k → ¬ S k) : SrcV W' v vs := by
  obtain ⟨ao, cap, rfl, h1, h2, h3⟩ := h
  refine ⟨ao, cap, rfl, h1, fun h => ?_, h3⟩
  obtain ⟨g, off, rfl, hc⟩ := h2 h
  exact ⟨g, off, rfl, hk.cells hc (hn g ⟨off, _, _, rfl⟩)⟩
/-- Values that stand for themselves. -/
def EncD {α : Type} (D : α → Value) : EncR α := fun x v G _ => v = D x ∧ ∀ k, ¬ G k
theorem EncD.ok {α : Type} (D : α → Value) (X : NSet) : EOk X (EncD D) := fun _ _ _ _ _ _ h _ _ => h
/-- The values vs stand for xs; G: the blocks that go with them. -/
def Els {α : Type} (E : EncR α) (xs : List α) (vs : List Value) (G : NSet) (W : World) : Prop := xs.length = vs.length ∧ ∀ (i : Nat) (x : α) (v : Value), xs[i]? = some x → vs[i]? = some v → ∃ Gi, E x v Gi W ∧ ∀ k, Gi k → G k
theorem Els.kept {α : Type} {E : EncR α} {X : NSet} (hE : EOk X E) {xs : List α} {vs : List Value} {G S : NSet} {W W' : World} (h : Els E xs vs G W) (hk : Kept S W W') (hS : ∀ k, S k → ¬ G k ∧ ¬ X k) : Els E xs vs G W' :=
  ⟨h.1, fun i x v h1 h2 => by
    obtain ⟨Gi, h3, h4⟩ := h.2 i x v h1 h2
    exact ⟨Gi, hE _ _ _ _ _ _ h3 hk (fun k h => ⟨fun h5 => (hS k h).1 (h4 k h5), (hS k h).2⟩), h4⟩⟩
theorem Els.snoc {α : Type} {E : EncR α} {xs : List α} {vs : List Value} {G Gn : NSet} {W : World} {x : α} {v : Value} (h : Els E xs vs G W) (hx : E x v Gn W) : Els E (xs ++ [x]) (vs ++ [v]) (fun k => G k ∨ Gn k) W := by
  refine ⟨by simp [h.1], fun i y u h1 h2 => ?_⟩
  by_cases hi : i < xs.length
  · rw [List.getElem?_append_left hi] at h1
    rw [List.getElem?_append_left (by rw [← h.1]; exact hi)] at h2
    obtain ⟨Gi, h3, h4⟩ := h.2 i y u h1 h2
    exact ⟨Gi, h3, fun k hk => .inl (h4 k hk)⟩
  · rw [List.getElem?_append_right (by omega)] at h1
    rw [List.getElem?_append_right (by rw [← h.1]; omega)] at h2
    rw [← h.1] at h2
    obtain ⟨rfl, rfl⟩ : y = x ∧ u = v := by
      cases hn : i - xs.length with
      | zero => rw [hn] at h1 h2; simp at h1 h2; exact ⟨h1.symm, h2.symm⟩
      | succ n => rw [hn] at h1; simp at h1
    exact ⟨Gn, hx, fun k hk => .inr hk⟩
end Go.Proofs.Ytbbhchmdggfncaa


/-
  Reg2's laws inside the wide fence: a region that draws its order and holds calls of function values. Nothing of a program's dump is used here.
-/
namespace Go.Proofs.Ytbbhchmdggfncaa
open Go.RowKit Go.Shelf
set_option linter.unusedSimpArgs false
set_option linter.unusedVariables false
set_option maxRecDepth 100000

section
variable {n : Nat} {P : Program} {ops : Array Oper} {Q : Exit → Act → World → Prop} {md : Region.Mode} {S S' : World → Prop} {m : Nat}
theorem YieldsIf.wpOpI {i : Nat} {o : Oper} {v : Value} {a : Act} (hi : ops[i]? = some o) (hy : YieldsIf P ops S o v a)
    {K : Act → World → Prop} {w : World} (hS : S w) (h : K (a.put o.dst v) w) : wpOpIn Fence.wide n P ops Q i K a w := by
  unfold Go.wpOpIn
  simp only [hi]
  have hro : Fence.wide.round = none := rfl
  rcases hy with ⟨hw, hv⟩ | ⟨hw, rfl⟩
  · simp only [hw, if_true, Oper.wpIn, hro, Oper.semAt_none, hv w hS, Oper.uponIn]; exact ⟨fun _ _ => trivial, h⟩
  · simp only [hw, Bool.false_eq_true, if_false]; exact ⟨fun _ _ => trivial, h⟩
theorem wpOpI_putIf {j : Nat} {oi oj : Oper} {v : Value} (hj : ops[j]? = some oj) (hap : oi.apart ops oj = true)
    (hsi : ∀ cs b, oi.op ≠ .select cs b) (hsj : ∀ cs b, oj.op ≠ .select cs b)
    (hQ : ∀ c a w, Q (.panic c) (a.put oi.dst v) w → Q (.panic c) a w) {K : Act → World → Prop} {a : Act} {w : World}
    (hy : YieldsIf P ops S oi v a) (h : wpOpIn Fence.wide n P ops Q j K (a.put oi.dst v) w) :
    wpOpIn Fence.wide n P ops Q j (fun a' w' => YieldsIf P ops S oi v a' ∧ K (a'.put oi.dst v) w') a w := by
  have hro : Fence.wide.round = none := rfl
  obtain ⟨h1, h2, h3⟩ := Oper.apart_spec hap
  have keep : ∀ (a : Act), YieldsIf P ops S oi v a → ∀ u, YieldsIf P ops S oi v (a.put oj.dst u) := fun a hy u =>
    hy.of_same (execOp_put oi hsi a oj.dst u h3) (wanted_put oi a oj.dst u h3)
  have keepD : ∀ d, YieldsIf P ops S oi v { a with defers := d :: a.defers } := fun d => hy.of_same rfl rfl
  unfold wpOpIn at *
  simp only [hj] at *
  rw [wanted_put oj a oi.dst v h1] at h
  split
  · rename_i hw
    simp only [hw, if_true] at h
    unfold Oper.wpIn at *
    refine ⟨fun _ _ => trivial, ?_⟩
    have h := h.2
    rw [hro, Oper.semAt_none, execOp_put oj hsj a oi.dst v h1] at h
    rw [hro, Oper.semAt_none]
    generalize (execOp a.eval oj).run P w = r at *
    cases r with
    | ok x w' =>
      cases x <;> simp only [Oper.uponIn] at h ⊢
      case value u => exact ⟨keep a hy u, by rw [← Act.put_comm a v u h2]; exact h⟩
      case skip => exact ⟨keep a hy _, by rw [← Act.put_comm a v undef h2]; exact h⟩
      case defer d =>
        refine ⟨keep _ (keepD d) _, ?_⟩
        rw [← Act.put_comm _ v undef h2, ← Act.put_defers]
        exact h
      case enter f args =>
        refine ⟨h.1, CallsIn.mono h.2 fun e w'' he => ?_⟩
        cases e with
        | returned u => exact ⟨keep a hy u, by rw [← Act.put_comm a v u h2]; exact he⟩
        | panicked c => exact hQ _ _ _ he
        | outgrown => exact he
      case row row args => exact ⟨h.1, RowsIn.mono h.2 fun u w'' he => ⟨keep a hy u, by rw [← Act.put_comm a v u h2]; exact he⟩⟩
      case round l f tmps assign body =>
        refine ⟨h.1, RoundIn.mono h.2 fun e w'' he => ?_⟩
        cases e with
        | returned u => exact ⟨keep a hy u, by rw [← Act.put_comm a v u h2]; exact he⟩
        | panicked c => exact hQ _ _ _ he
        | outgrown => exact he
    | halt x w' =>
      cases x <;> simp only [Oper.uponIn] at h ⊢
      case panic u => exact hQ _ _ _ h
  · rename_i hw
    simp only [hw] at h
    exact ⟨fun _ _ => trivial, keep a hy _, by rw [← Act.put_comm a v undef h2]; exact h.2⟩

def wpAnyMI (n : Nat) (P : Program) (md : Region.Mode) (ops : Array Oper) (Q : Exit → Act → World → Prop) (S : World → Prop) (m : Nat) : Nat → Array Bool → Act → World → Prop
  | 0, listed, a, w => Region.ready md ops listed = [] ∧ Q .normal a w
  | fuel + 1, listed, a, w =>
    (Region.ready md ops listed = [] → Q .normal a w) ∧
    ∀ i ∈ Region.ready md ops listed, wpOpIn Fence.wide n P ops Q i (fun a' w' => (i ≠ m → S w') ∧ wpAnyMI n P md ops Q S m fuel (listed.setIfInBounds i true) a' w') a w
theorem wpAnyIn_of_MI : ∀ (fuel : Nat) (listed : Array Bool) (a : Act) (w : World), wpAnyMI n P md ops Q S m fuel listed a w → wpAnyIn Fence.wide n P md ops Q fuel listed a w
  | 0, _, _, _, h => h
  | fuel + 1, _, _, _, h => ⟨h.1, fun i hi => wpOpIn_mono (fun a' w' h' => wpAnyIn_of_MI fuel _ a' w' h'.2) (h.2 i hi)⟩
theorem wpAnyMI_first {i : Nat} {oi : Oper} {v : Value} (hi : ops[i]? = some oi) (hm : waitsM md ops m i = true) (hsel : ∀ (j : Nat) (o : Oper) cs b, ops[j]? = some o → o.op ≠ .select cs b)
    (hQ : ∀ c a w, Q (.panic c) (a.put oi.dst v) w → Q (.panic c) a w) :
    ∀ (fuel : Nat) (listed : Array Bool) (a : Act) (w : World), apartM md ops i oi listed → i ∈ Region.ready md ops listed → YieldsIf P ops S oi v a → S w →
      wpAnyMI n P md ops Q S m fuel (listed.setIfInBounds i true) (a.put oi.dst v) w → wpAnyMI n P md ops Q S m (fuel + 1) listed a w
  | fuel, listed, a, w, hfree, hr, hy, hS, H => by
    refine ⟨fun h0 => absurd (h0 ▸ hr) (by simp), fun j hj => ?_⟩
    by_cases hji : j = i
    · subst hji
      exact YieldsIf.wpOpI hi hy hS ⟨fun _ => hS, H⟩
    have hj2 := ready_mono hj hji
    match fuel, H with
    | 0, H => exact absurd (H.1 ▸ hj2) (by simp)
    | fuel + 1, H =>
      obtain ⟨hjun, oj, hoj, _⟩ := mem_ready.1 hj
      have hno := no_wait hr hj hoj
      have hjm : j ≠ m := by
        rintro rfl
        simp only [waitsM, Bool.and_eq_true, Bool.or_eq_true, decide_eq_true_eq] at hm
        rcases hm.2 with h | h
        · exact absurd (Array.getElem?_eq_some_iff.1 hoj).1 (by omega)
        · obtain ⟨o, ho, e, he, hb, hon⟩ := Region.waitsFor_spec h
          rw [hoj] at ho
          cases ho
          exact hno e he hb hon
      refine wpOpIn_mono ?_ (wpOpI_putIf hoj (hfree j oj hoj hji hjun hno) (fun cs b => hsel i oi cs b hi) (fun cs b => hsel j oj cs b hoj) hQ hy (H.2 j hj2))
      rintro a' w' ⟨hy', hS', h'⟩
      rw [Array.setIfInBounds_comm _ _ (Ne.symm hji)] at h'
      exact ⟨hS', wpAnyMI_first hi hm hsel hQ fuel _ a' w' (hfree.set hjun) (ready_mono hr (Ne.symm hji)) hy' (hS' hjm) h'⟩
variable {fuel : Nat} {listed : Array Bool} {a : Act} {w w' : World}
/-- A read, taken first. -/
theorem tkI (i t : Nat) {oi : Oper} {v : Value} (hS : S w) (hi : ops[i]? = some oi) (hd : oi.dst = some t) (hm : waitsM md ops m i = true) (hs : Region.noSelect ops = true) (hf : Region.free md ops listed i = true) (hr : (Region.ready md ops listed).contains i = true)
    (hw : Region.wanted oi (yielded ops a.tmps) = true) (hQ : ∀ c a w, Q (.panic c) (a.put oi.dst v) w → Q (.panic c) a w) (hrun : ∀ U, S U → (execOp a.eval oi).run P U = .ok (.value v) U)
    (h : wpAnyMI n P md ops Q S m fuel (listed.setIfInBounds i true) (a.put (some t) v) w) : wpAnyMI n P md ops Q S m (fuel + 1) listed a w := by
  rw [← hd] at h
  exact wpAnyMI_first hi hm (Region.noSelect_spec hs) hQ fuel listed a w (Region.free_spec hi hf) (by simpa using hr) (.inl ⟨hw, hrun⟩) hS h
theorem doneI (hr : Region.ready md ops listed = []) (h : Q .normal a w) : wpAnyMI n P md ops Q S m fuel listed a w := by
  cases fuel with
  | zero => exact ⟨hr, h⟩
  | succ n => exact ⟨fun _ => h, by rw [hr]; simp⟩
/-- The condition may be chosen behind the draw. -/
theorem region_I {id : Nat} (m : Nat) (hm : P.follows .mixedOrders = true)
    (h : ∀ w', Kept (fun _ => False) w w' → w'.heap = w.heap → ∃ S : World → Prop, wpAnyMI n P .any ops Q S m ops.size (Array.replicate ops.size false) a w') : (Code.region id ops true).wpIn Fence.wide n P Q a w := by
  obtain ⟨S, h⟩ := h { w with drawn := w.drawn + 1 } ⟨rfl, rfl, rfl, Nat.le_refl _, fun _ _ _ => rfl⟩ rfl
  exact wpIn_region_any hm (wpAnyIn_of_MI _ _ _ _ h)
end
end Go.Proofs.Ytbbhchmdggfncaa
