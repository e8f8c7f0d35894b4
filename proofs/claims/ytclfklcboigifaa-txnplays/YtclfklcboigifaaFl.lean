/-
  Sequences that are made of others: what a sequence hands on, to whom, and what both may change. A sequence reads the blocks X and changes C; whoever takes what it hands on changes F. Nothing of a program's dump is used here.
-/
import Derived.Test.YtclfklcboigifaaSeq
namespace Go.Proofs.Ytclfklcboigifaa
open Go.RowKit Go.Shelf
set_option linter.unusedSimpArgs false
set_option linter.unusedVariables false
set_option maxRecDepth 100000

abbrev NSet := Nat → Prop
/-- A function value that is not nil. -/
def IsFn (v : Value) : Prop := ∃ fn lb, v = .func fn #[] lb
/-- I speaks of the blocks F, and of such blocks below B as are none of C. -/
structure Stab (B : Nat) (C : NSet) (I : NSet → World → Prop) : Prop where
  lt : ∀ F W, I F W → ∀ k, F k → k < W.heap.size
  kept : ∀ F W W' S, I F W → Kept S W W' → (∀ k, S k → ¬ F k) → (∀ k, S k → k < B → C k) → I F W'
theorem Stab.none {B : Nat} {C : NSet} {I : NSet → World → Prop} (h : Stab B C I) {F : NSet} {W W' : World} (hi : I F W) (hk : Kept (fun _ => False) W W') : I F W' := h.kept F W W' _ hi hk (fun _ h => h.elim) (fun _ h => h.elim)
/-- Something stands for x: the value v, with the blocks G that go with it. -/
abbrev EncR (α : Type) := α → Value → NSet → World → Prop
def EOk {α : Type} (X : NSet) (E : EncR α) : Prop := ∀ x v G W W' S, E x v G W → Kept S W W' → (∀ k, S k → ¬ G k ∧ ¬ X k) → E x v G W'

/-- What one is left with behind a call of the taker. -/
def Handed {α : Type} (J Jx : List α → NSet → World → Prop) (pre : List α) (F G : NSet) (W : World) (e : Ending) (W' : World) : Prop :=
  ∃ F', ((e = .returned (.bool true) ∧ J pre F' W') ∨ (e = .returned (.bool false) ∧ Jx pre F' W')) ∧ Kept (fun k => F k ∨ G k) W W' ∧ ∀ k, F' k → F k ∨ G k ∨ W.heap.size ≤ k
def Takes (P : Program) {α : Type} (E : EncR α) (xs : List α) (B : Nat) (F0 : NSet) (tv : Value) (J Jx : List α → NSet → World → Prop) : Prop :=
  ∀ pre x post F G v W, xs = pre ++ x :: post → J pre F W → B ≤ W.heap.size → (∀ k, F k → F0 k ∨ B ≤ k) → E x v G W → (∀ k, G k → ¬ F k ∧ B ≤ k ∧ k < W.heap.size) →
    YC P tv #[v] W (Handed J Jx (pre ++ [x]) F G W)
def FEnd {α : Type} (J Jx : List α → NSet → World → Prop) (xs : List α) (C : NSet) (Post : Bool → List α → World → Prop) (F0 : NSet) (W : World) (b : Bool) (W' : World) : Prop :=
  Kept (fun k => F0 k ∨ C k) W W' ∧ ((b = true ∧ ∃ F', J xs F' W' ∧ (∀ k, F' k → F0 k ∨ W.heap.size ≤ k) ∧ Post true xs W') ∨
    (b = false ∧ ∃ pre F', (∃ post, xs = pre ++ post) ∧ Jx pre F' W' ∧ (∀ k, F' k → F0 k ∨ W.heap.size ≤ k) ∧ Post false pre W'))
def FEnded {α : Type} (J Jx : List α → NSet → World → Prop) (xs : List α) (C : NSet) (Post : Bool → List α → World → Prop) (F0 : NSet) (W : World) (e : Ending) (W' : World) : Prop :=
  (∃ v, e = .returned v) ∧ ∃ b, FEnd J Jx xs C Post F0 W b W'
/-- In the world W the sequence sv hands xs on, one after the other, till it is told to end. -/
def FSeqAt (P : Program) (sv : Value) {α : Type} (E : EncR α) (xs : List α) (X C : NSet) (Post : Bool → List α → World → Prop) (W : World) : Prop :=
  ∀ (tv : Value) (J Jx : List α → NSet → World → Prop) (F0 : NSet),
    IsFn tv → (∀ pre, Stab W.heap.size C (J pre)) → (∀ pre, Stab W.heap.size C (Jx pre)) → (∀ k, F0 k → ¬ X k ∧ ¬ C k) →
    Takes P E xs W.heap.size F0 tv J Jx → J [] F0 W → YC P sv #[tv] W (FEnded J Jx xs C Post F0 W)
structure SeqOk (P : Program) (sv : Value) {α : Type} (E : EncR α) (xs : List α) (X C : NSet) (Post : Bool → List α → World → Prop) (W : World) : Prop where
  fn : IsFn sv ∨ (sv = .nilFunc ∧ xs = [] ∧ ∀ W, Post true [] W)
  lt : ∀ k, X k ∨ C k → k < W.heap.size
  apart : ∀ k, X k → ¬ C k
  enc : EOk X E
  post : ∀ b pre W W' S, Post b pre W → Kept S W W' → (∀ k, S k → ¬ C k) → Post b pre W'
  run : IsFn sv → ∀ W' S, Kept S W W' → (∀ k, S k → ¬ X k ∧ ¬ C k) → FSeqAt P sv E xs X C Post W'
theorem SeqOk.kept {P : Program} {sv : Value} {α : Type} {E : EncR α} {xs : List α} {X C : NSet} {Post : Bool → List α → World → Prop} {W W' : World} {S : NSet} (h : SeqOk P sv E xs X C Post W) (hk : Kept S W W') (hS : ∀ k, S k → ¬ X k ∧ ¬ C k) : SeqOk P sv E xs X C Post W' :=
  ⟨h.fn, fun k hx => Nat.lt_of_lt_of_le (h.lt k hx) hk.size, h.apart, h.enc, h.post, fun hf W'' S' hk' hS' => h.run hf W'' (fun k => S k ∨ S' k) ((hk.mono (T := fun k => S k ∨ S' k) (fun _ _ h => .inl h)).trans hk' (fun _ _ h => .inr h)) (fun k hs => hs.elim (hS k) (hS' k))⟩
theorem SeqOk.cells {P : Program} {sv : Value} {α : Type} {E : EncR α} {xs : List α} {X C : NSet} {Post : Bool → List α → World → Prop} {W : World} (h : SeqOk P sv E xs X C Post W) : sv.cells = #[sv] := by
  rcases h.fn with ⟨_, _, rfl⟩ | ⟨rfl, _⟩ <;> rfl
/-- A nil sequence. -/
theorem SeqOk.nil (P : Program) {α : Type} (E : EncR α) (X : NSet) (hE : EOk X E) (W : World) (hX : ∀ k, X k → k < W.heap.size) : SeqOk P .nilFunc E [] X (fun _ => False) (fun _ _ _ => True) W :=
  ⟨.inr ⟨rfl, rfl, fun _ => trivial⟩, fun k h => h.elim (hX k) (fun h => h.elim), fun _ _ h => h, hE, fun _ _ _ _ _ _ _ _ => trivial, fun ⟨_, _, h⟩ => by cases h⟩
/-- A function of one value that changes nothing. -/
def FnOk (P : Program) (fv : Value) {α β : Type} (E : EncR α) (D : β → Value) (f : α → β) (X : NSet) (W : World) : Prop :=
  ∀ W' S, Kept S W W' → (∀ k, S k → ¬ X k) → ∀ x v G, E x v G W' → YC P fv #[v] W' (fun e W'' => e = .returned (D (f x)) ∧ Kept (fun _ => False) W' W'')
theorem FnOk.kept {P : Program} {fv : Value} {α β : Type} {E : EncR α} {D : β → Value} {f : α → β} {X : NSet} {W W' : World} {S : NSet} (h : FnOk P fv E D f X W) (hk : Kept S W W') (hS : ∀ k, S k → ¬ X k) : FnOk P fv E D f X W' :=
  fun W'' S' hk' hS' => h W'' (fun k => S k ∨ S' k) ((hk.mono (T := fun k => S k ∨ S' k) (fun _ _ h => .inl h)).trans hk' (fun _ _ h => .inr h)) (fun k hs => hs.elim (hS k) (hS' k))
theorem FnOk.at {P : Program} {fv : Value} {α β : Type} {E : EncR α} {D : β → Value} {f : α → β} {X : NSet} {W : World} (h : FnOk P fv E D f X W) {x : α} {v : Value} {G : NSet} (hE : E x v G W) : YC P fv #[v] W (fun e W'' => e = .returned (D (f x)) ∧ Kept (fun _ => False) W W'') := h W _ (Kept.refl (fun _ => False) W) (fun _ h => h.elim) x v G hE
theorem FnOk.of {P : Program} {g : Nat} {lb : Array Value} {α β : Type} {E : EncR α} {D : β → Value} {f : α → β} {X : NSet} {W : World} (eg : ∀ args w, (callFunc g args).run P w = .ok (.enter g args) w)
    (h : ∀ W' S, Kept S W W' → (∀ k, S k → ¬ X k) → ∀ x v G, E x v G W' → Calls P g (#[v] ++ lb) W' (fun e W'' => e = .returned (D (f x)) ∧ Kept (fun _ => False) W' W'')) : FnOk P (.func (.func g) #[] lb) E D f X W :=
  fun W' S hk hS x v G hE => .inl ⟨g, lb, rfl, eg, h W' S hk hS x v G hE⟩

/-- More is said beside I: a block that nobody changes. -/
theorem Stab.blk {B B' : Nat} {C : NSet} {I : NSet → World → Prop} {b : Nat} {L : List Value} {t : TypeId} (h : Stab B C I) (hB : B ≤ B') (hb : b < B') (hc : ¬ C b) : Stab B' C (fun F W => I F W ∧ Blk W b L t ∧ ¬ F b) :=
  ⟨fun F W hi => h.lt F W hi.1, fun F W W' S hi hk h1 h2 => ⟨h.kept F W W' S hi.1 hk h1 (fun k hs hl => h2 k hs (by omega)), hk.blk hi.2.1 (fun hs => hc (h2 b hs hb)), hi.2.2⟩⟩
/-- A block that the owner of I changes. -/
theorem Stab.own {B B' : Nat} {C : NSet} {I : NSet → World → Prop} {b : Nat} {L : List Value} {t : TypeId} (h : Stab B C I) (hB : B ≤ B') : Stab B' C (fun F W => ∃ Fi, F = (fun k => Fi k ∨ k = b) ∧ I Fi W ∧ Blk W b L t ∧ ¬ Fi b) := by
  refine ⟨?_, ?_⟩
  · rintro F W ⟨Fi, rfl, hi, hb, hn⟩ k (hk | hk)
    · exact h.lt Fi W hi k hk
    · rw [hk]; exact hb.lt
  · rintro F W W' S ⟨Fi, rfl, hi, hb, hn⟩ hk h1 h2
    exact ⟨Fi, rfl, h.kept Fi W W' S hi hk (fun k hs hf => h1 k hs (.inl hf)) (fun k hs hl => h2 k hs (by omega)), hk.blk hb (fun hs => h1 b hs (.inr rfl)), hn⟩
theorem Stab.fnok {P : Program} {fv : Value} {α β : Type} {E : EncR α} {D : β → Value} {f : α → β} {X : NSet} {B B' : Nat} {C : NSet} {I : NSet → World → Prop} (h : Stab B C I) (hB : B ≤ B') (hX : ∀ k, X k → k < B' ∧ ¬ C k) : Stab B' C (fun F W => I F W ∧ FnOk P fv E D f X W ∧ ∀ k, X k → ¬ F k) :=
  ⟨fun F W hi => h.lt F W hi.1, fun F W W' S hi hk h1 h2 => ⟨h.kept F W W' S hi.1 hk h1 (fun k hs hl => h2 k hs (by omega)), hi.2.1.kept hk (fun k hs hx => (hX k hx).2 (h2 k hs (hX k hx).1)), hi.2.2⟩⟩
theorem Stab.le {B B' : Nat} {C : NSet} {I : NSet → World → Prop} (h : Stab B C I) (hB : B ≤ B') : Stab B' C I :=
  ⟨h.lt, fun F W W' S hi hk h1 h2 => h.kept F W W' S hi hk h1 (fun k hs hl => h2 k hs (by omega))⟩

section
variable {n : Nat} {P : Program} {ops : Array Oper} {Q : Exit → Act → World → Prop} {a : Act} {w : World} {rest : List Oper} {d : Nat} {ty : TypeId} {pos : String} {aft : Array Edge} {x y : Operand} {ts : Array TypeId} {gd : Option (Nat × Bool)}
theorem run_cF1 (ρ : Operand → Value) {dst : Option Tmp} {gf : Nat} {lb : Array Value} {vy : Value} (hx : ρ x = .func (.func gf) #[] lb) (hy : ρ y = vy) (eg : ∀ args w, (callFunc gf args).run P w = .ok (.enter gf args) w) :
    (execOp ρ ⟨dst, .call { callee := .value x, args := #[y], argTypes := ts }, ty, pos, aft, gd⟩).run P w = .ok (.enter gf (#[vy] ++ lb)) w := by
  simp [execOp, resolve, invoke, hx, hy, go_sem, eg]
theorem run_cY1 (ρ : Operand → Value) {dst : Option Tmp} {l : Nat} {vy : Value} {nx : Next} (hx : ρ x = .func (.yield l) #[] #[]) (hy : ρ y = vy) (hr : (Instr.yield l #[vy]).run P w = .ok nx w) :
    (execOp ρ ⟨dst, .call { callee := .value x, args := #[y], argTypes := ts }, ty, pos, aft, gd⟩).run P w = .ok nx w := by
  simp [execOp, resolve, invoke, hx, hy, go_sem, hr]
/-- A call of a function value with one argument, guarded or not. -/
theorem ai_yc1 {yv vy : Value} {R : Ending → World → Prop} (hx : a.eval x = yv) (hy : a.eval y = vy) (hw : Region.wanted ⟨some d, .call { callee := .value x, args := #[y], argTypes := ts }, ty, pos, aft, gd⟩ (yielded ops a.tmps) = true) (hc : YC P yv #[vy] w R)
    (h : ∀ e w', R e w' → ∃ v, e = .returned v ∧ wpListIn Fence.wide n P ops Q rest (a.put (some d) v) w') :
    wpListIn Fence.wide n P ops Q (⟨some d, .call { callee := .value x, args := #[y], argTypes := ts }, ty, pos, aft, gd⟩ :: rest) a w := by
  refine wpListIn_step fun K hK => ?_
  rw [if_pos hw]
  refine ⟨fun _ _ => trivial, ?_⟩
  rw [Oper.semAt_eq _ _ _ (fun _ => by simp)]
  rcases hc with ⟨gf, lb, rfl, eg, hc⟩ | ⟨l, rfl, hc⟩
  · rw [run_cF1 a.eval hx hy eg]
    refine ⟨fun e => (by cases e), callsIn_wide.2 (hc.mono ?_)⟩
    rintro e w' hR
    obtain ⟨v, rfl, h2⟩ := h e w' hR
    exact hK _ _ h2
  · obtain ⟨fn, tmps, assign, body, hr, hro⟩ := hc (n - 1)
    rw [run_cY1 a.eval hx hy hr]
    refine ⟨fun e => (by cases e), hro.mono ?_⟩
    rintro e w' hR
    obtain ⟨v, rfl, h2⟩ := h e w' hR
    exact hK _ _ h2
theorem ai_skip {o : Oper} (hw : Region.wanted o (yielded ops a.tmps) = false) (h : wpListIn Fence.wide n P ops Q rest (a.put o.dst undef) w) : wpListIn Fence.wide n P ops Q (o :: rest) a w := by
  simp only [wpListIn, hw]
  exact ⟨fun _ _ => trivial, h⟩
theorem stopi_val1 {F : Fence} {dst : Option Tmp} {t : Nat} {aq : Array Operand} (h : Hid (wpListIn F n P ops Q (⟨dst, .call { callee := .value (.tmp t), args := aq, argTypes := ts }, ty, pos, aft, gd⟩ :: rest) a w)) : wpListIn F n P ops Q (⟨dst, .call { callee := .value (.tmp t), args := aq, argTypes := ts }, ty, pos, aft, gd⟩ :: rest) a w := h.out
theorem stopi_alloc {F : Fence} {dst : Option Tmp} (t : TypeId) (h : Hid (wpListIn F n P ops Q (⟨dst, .alloc t, ty, pos, aft, none⟩ :: rest) a w)) : wpListIn F n P ops Q (⟨dst, .alloc t, ty, pos, aft, none⟩ :: rest) a w := h.out
theorem put_none (a : Act) (v : Value) : a.put none v = a := rfl
theorem stopi_box {F : Fence} {dst : Option Tmp} (t : TypeId) (h : Hid (wpListIn F n P ops Q (⟨dst, .box t x, ty, pos, aft, none⟩ :: rest) a w)) : wpListIn F n P ops Q (⟨dst, .box t x, ty, pos, aft, none⟩ :: rest) a w := h.out
theorem ai_box {F : Fence} {dst : Option Tmp} {t : TypeId} {v : Value} (hx : a.eval x = v)
    (h : ∀ w', Blk w' w.heap.size v.cells.toList t → Kept (fun _ => False) w w' → w'.heap.size = w.heap.size + 1 → wpListIn F n P ops Q rest (a.put dst (.pointer (some ⟨w.heap.size, 0, none⟩))) w') :
    wpListIn F n P ops Q (⟨dst, .box t x, ty, pos, aft, none⟩ :: rest) a w :=
  wpListIn_run rfl rfl (fun _ => by simp) run_box_agg (by rw [hx]; exact h _ (Blk.newA w _ t) (Kept.alloc _ w _) (by simp))
end

section
variable {P : Program} {w : World} {ty : TypeId} {pos : String} {aft : Array Edge} {x y : Operand}
/-- A value of one cell is stored. -/
theorem run_store_one {ρ : Operand → Value} {dst : Option Tmp} {gd : Option (Nat × Bool)} {t : TypeId} {i : TypeInfo} {b off : Nat} {L : List Value} {v : Value} {e : TypeId} (hi : P.info? t = some i) (hs : i.size = 1) (hx : ρ x = .pointer (some ⟨b, off, none⟩)) (hy : ρ y = v) (hv : v.cells = #[v]) (h1 : v.oneCell' = true) (hb : Blk w b L e) (hl : off < L.length) :
    (execOp ρ ⟨dst, .store t x y, ty, pos, aft, gd⟩).run P w = .ok .skip (w.setRow b (L.set off v).toArray) := by
  have hs1 := run_storeCells_at (P := P) b off e [v] 0 L.toArray w hb (by simp; omega) (by simpa using h1)
  have e1 : L.take off ++ v :: L.drop (off + 1) = L.set off v := by
    rw [List.set_eq_take_append_cons_drop, if_pos hl]
  simp [execOp, Instr.storeAt, hx, hy, Instr.sureAddr, storeVar, hv, sizeOf, typeInfo, hi, hs]
  simp [e1] at hs1
  rw [hs1]
  rfl
theorem ai_store1 {F : Fence} {n : Nat} {ops : Array Oper} {Q : Exit → Act → World → Prop} {a : Act} {rest : List Oper} {dst : Option Tmp} {t : TypeId} {i : TypeInfo} {b off : Nat} {L : List Value} {v : Value} {e : TypeId} (hi : P.info? t = some i) (hs : i.size = 1) (hx : a.eval x = .pointer (some ⟨b, off, none⟩)) (hy : a.eval y = v) (hv : v.cells = #[v]) (h1 : v.oneCell' = true) (hb : Blk w b L e) (hl : off < L.length)
    (h : ∀ w', Blk w' b (L.set off v) e → Kept (fun k => k = b) w w' → w'.heap.size = w.heap.size → wpListIn F n P ops Q rest (a.put dst undef) w') : wpListIn F n P ops Q (⟨dst, .store t x y, ty, pos, aft, none⟩ :: rest) a w :=
  wpListIn_run_skip rfl rfl (fun _ => by simp) (run_store_one hi hs hx hy hv h1 hb hl) (h _ (hb.setRow _) (Kept.setRow (S := fun k => k = b) w b _ rfl) (by simp [World.setRow]))
theorem aw_store1 {ops : Array Oper} {Q : Exit → Act → World → Prop} {a : Act} {rest : List Oper} {dst : Option Tmp} {t : TypeId} {i : TypeInfo} {b off : Nat} {L : List Value} {v : Value} {e : TypeId} (hi : P.info? t = some i) (hs : i.size = 1) (hx : a.eval x = .pointer (some ⟨b, off, none⟩)) (hy : a.eval y = v) (hv : v.cells = #[v]) (h1 : v.oneCell' = true) (hb : Blk w b L e) (hl : off < L.length)
    (h : ∀ w', Blk w' b (L.set off v) e → Kept (fun k => k = b) w w' → w'.heap.size = w.heap.size → wpList P ops Q rest (a.put dst undef) w') : wpList P ops Q (⟨dst, .store t x y, ty, pos, aft, none⟩ :: rest) a w :=
  wpList_run_skip rfl (run_store_one hi hs hx hy hv h1 hb hl) (h _ (hb.setRow _) (Kept.setRow (S := fun k => k = b) w b _ rfl) (by simp [World.setRow]))
end

end Go.Proofs.Ytclfklcboigifaa
