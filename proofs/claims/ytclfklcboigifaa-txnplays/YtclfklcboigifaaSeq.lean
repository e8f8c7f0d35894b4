/-
  A range over a function, where the iterator may itself be one that ranges over another: a contract of iterators with the blocks that the body may change; the law of such a loop; a call of a function value, be it a function or a loop's round. Nothing of a program's dump is used here.
-/
import Derived.Test.YtclfklcboigifaaBlkIn
import Derived.Test.YtclfklcboigifaaReg2
namespace Go.Proofs.Ytclfklcboigifaa
open Go.RowKit Go.Shelf
set_option linter.unusedSimpArgs false
set_option linter.unusedVariables false
set_option maxRecDepth 100000

/-- A call of a function value. -/
def YC (P : Program) (yv : Value) (args : Array Value) (W : World) (R : Ending → World → Prop) : Prop :=
  (∃ g lb, yv = .func (.func g) #[] lb ∧ (∀ args w, (callFunc g args).run P w = .ok (.enter g args) w) ∧ Calls P g (args ++ lb) W R) ∨ (∃ l, yv = .func (.yield l) #[] #[] ∧ ∀ n, YieldAt Fence.wide n P l args W R)
theorem YC.mono {P : Program} {yv : Value} {args : Array Value} {W : World} {R R' : Ending → World → Prop} (h : YC P yv args W R) (hr : ∀ e w, R e w → R' e w) : YC P yv args W R' := by
  rcases h with ⟨g, lb, he, hg, hc⟩ | ⟨l, he, hc⟩
  · exact .inl ⟨g, lb, he, hg, hc.mono hr⟩
  · exact .inr ⟨l, he, fun n => (hc n).mono hr⟩

def IsCells (W : World) (k : Nat) : Prop := ∃ c t f, W.heap[k]? = some (.cells c t f)
/-- J speaks of cells, and of other blocks below B alone; of the blocks F that its owner may change, those from B on are cells. -/
structure FootOk {α : Type} (B : Nat) (J : List α → (Nat → Prop) → World → Prop) : Prop where
  own : ∀ pre F, OwnFrom B (fun (_ : Unit) W => J pre F W)
  cells : ∀ pre F W, J pre F W → ∀ k, F k → B ≤ k → IsCells W k
def Yielded {α : Type} (J Jx : List α → (Nat → Prop) → World → Prop) (pre : List α) (F : Nat → Prop) (W : World) (e : Ending) (W' : World) : Prop :=
  ∃ F', ((e = .returned (.bool true) ∧ J pre F' W') ∨ (e = .returned (.bool false) ∧ Jx pre F' W')) ∧ Kept F W W' ∧ ∀ k, F' k → F k ∨ W.heap.size ≤ k
def Ended {α : Type} (J Jx : List α → (Nat → Prop) → World → Prop) (xs : List α) (e : Ending) (W' : World) : Prop :=
  (∃ v, e = .returned v) ∧ ((∃ F', J xs F' W') ∨ ∃ pre F', (∃ post, xs = pre ++ post) ∧ Jx pre F' W')
/-- In the world W the iterator gf hands xs on, one after the other, till it is told to end; X: the blocks that it reads. -/
def SeqAt (P : Program) (gf : Nat) (lb : Array Value) {α : Type} (encs : α → Array Value) (xs : List α) (X : Nat → Prop) (W : World) : Prop :=
  ∀ (yv : Value) (J Jx : List α → (Nat → Prop) → World → Prop) (F0 : Nat → Prop),
    yv.cells = #[yv] → FootOk W.heap.size J → (∀ pre F, OwnFrom W.heap.size (fun (_ : Unit) W => Jx pre F W)) → (∀ k, F0 k → k < W.heap.size) → (∀ k, X k → ¬ F0 k) →
    (∀ pre x post F W1, xs = pre ++ x :: post → J pre F W1 → YC P yv (encs x) W1 (Yielded J Jx (pre ++ [x]) F W1)) → J [] F0 W →
    Calls P gf (#[yv] ++ lb) W (Ended J Jx xs)

theorem Kept.grown {w w' : World} (h : Kept (fun _ => False) w w') : w.grownBy w' none := ⟨h.os, h.tape, h.output, h.size, fun k hk _ => h.block k hk (fun h => h)⟩
theorem ownU_kept {B : Nat} {I : World → Prop} (h : OwnFrom B (fun (_ : Unit) W => I W)) {W W' : World} (hk : Kept (fun _ => False) W W') (hi : I W) : I W' := h () W W' none hi hk.grown (fun r e => by cases e)
theorem ownU_put {B : Nat} {I : World → Prop} (h : OwnFrom B (fun (_ : Unit) W => I W)) {W : World} {l : Nat} {o : Obj} (o' : Obj) (hi : I W) (hB : B ≤ l) (hl : W.heap[l]? = some o) (ho : o.isCells = false) : I (W.putObj l o') := OwnFrom.putObj (s := ()) h o' hi hB hl ho
theorem ownU_le {B B' : Nat} {I : World → Prop} (h : OwnFrom B (fun (_ : Unit) W => I W)) (hB : B ≤ B') : OwnFrom B' (fun (_ : Unit) W => I W) := fun s W W' row hi hg hr => h s W W' row hi hg (fun r e => ⟨Nat.le_trans hB (hr r e).1, (hr r e).2⟩)
theorem Kept.putObj (W : World) (l : Nat) (o : Obj) : Kept (fun k => k = l) W (W.putObj l o) := by
  have h := Kept.of_grown (grownBy_putObj' W l o)
  exact h.mono (fun i _ e => by cases e; rfl)
theorem IsCells.not_loop {W : World} {k : Nat} (h : IsCells W k) {o : Obj} (hk : W.heap[k]? = some o) (ho : o.isCells = false) : False := by
  obtain ⟨c, t, f, h⟩ := h
  rw [h] at hk
  cases hk
  simp [Obj.isCells] at ho

section
variable {P : Program} {α : Type} {g : Operand} {ps : Array Tmp} {assign body : Code} {Q : Exit → Act → World → Prop} {a : Act} {w : World}
/-- How a body may be left. -/
def bodyF (I Ix : List α → (Nat → Prop) → World → Prop) (pre : List α) (F : Nat → Prop) (W : World) : Exit → Act → World → Prop
  | .normal, _, W' => ∃ F', I pre F' W' ∧ Kept F W W' ∧ ∀ k, F' k → F k ∨ W.heap.size ≤ k
  | .ret, _, W' => ∃ F', Ix pre F' W' ∧ Kept F W W' ∧ ∀ k, F' k → F k ∨ W.heap.size ≤ k
  | _, _, _ => False

theorem rangeF {gf : Nat} {lb : Array Value} (hg : a.eval g = .func (.func gf) #[] lb) (eg : ∀ args w, (callFunc gf args).run P w = .ok (.enter gf args) w)
    {encs : α → Array Value} {xs : List α} {X : Nat → Prop} (hseq : ∀ W, Kept (fun _ => False) w W → SeqAt P gf lb encs xs X W) (hps : ∀ x, (encs x).size = ps.size)
    (I Ix : List α → (Nat → Prop) → World → Prop) (hI : FootOk w.heap.size I) (hIx : ∀ pre F, OwnFrom w.heap.size (fun (_ : Unit) W => Ix pre F W)) (F0 : Nat → Prop) (hF0 : ∀ k, F0 k → k < w.heap.size) (hX : ∀ k, X k → k < w.heap.size ∧ ¬ F0 k) (h0 : I [] F0 w)
    (Ax : α → Act → World → Prop) (hAx : ∀ x a', OwnFrom w.heap.size (fun (_ : Unit) W => Ax x a' W))
    (hassign : ∀ (l n : Nat) (pre : List α) (x : α) (F : Nat → Prop) (W : World) (K : Act → World → Prop), I pre F W → (∀ a' W', Kept (fun _ => False) W W' → Ax x a' W' → K a' W') →
      assign.wpIn (Fence.wide.inRound l) n P (Exit.then K (fun _ _ _ => False)) { tmps := (ps.zip (encs x)).foldl (fun t (p, v) => t.setIfInBounds p v) a.tmps, defers := [] } W)
    (hbody : ∀ (l n : Nat) (pre : List α) (x : α) (post : List α) (F : Nat → Prop) (a' : Act) (W : World), xs = pre ++ x :: post → I pre F W → Ax x a' W → body.wpIn (Fence.wide.inRound l) n P (bodyF I Ix (pre ++ [x]) F W) a' W)
    (hdone : ∀ (D : Nat) (F : Nat → Prop) (W : World), w.heap.size ≤ D → I xs F W → W.heap[D]? = some (.deferred (some [])) → Q .normal { a with defers := { target := .collected D, args := #[] } :: a.defers } W)
    (hstop : ∀ (D : Nat) (pre : List α) (F : Nat → Prop) (W : World), w.heap.size ≤ D → (∃ post, xs = pre ++ post) → Ix pre F W → W.heap[D]? = some (.deferred (some [])) → Code.ret.wp P Q { a with defers := { target := .collected D, args := #[] } :: a.defers } W) :
    (Code.rangeFunc g ps assign body).wp P Q a w := by
  refine (wpIn_wide (n := 2)).1 (wpIn_rangeFunc ?_)
  intro fn _
  obtain ⟨D, hD⟩ : ∃ D, D = w.heap.size := ⟨_, rfl⟩
  obtain ⟨rec, hrec⟩ : ∃ rec : LoopState → Option Code → Loop, rec = fun st pe => { state := st, pending := pe, fn, tmps := a.tmps, params := ps, assign, body, defers := D } := ⟨_, rfl⟩
  obtain ⟨W1, hW1⟩ : ∃ W1, W1 = (w.alloc (.deferred (some []))).alloc (.loop (rec .ready none)) := ⟨_, rfl⟩
  have hk1 : Kept (fun _ => False) w W1 := by rw [hW1]; exact (Kept.alloc _ w _).trans (Kept.alloc (fun _ => False) _ _) (fun _ _ h => h)
  have hs1 : W1.heap.size = D + 2 := by rw [hW1, hD]; simp
  have hL1 : W1.heap[D + 1]? = some (.loop (rec .ready none)) := by
    have h := World.alloc_heap_new (w.alloc (.deferred (some []))) (.loop (rec .ready none))
    rw [World.size_alloc, ← hD] at h
    rw [hW1]
    exact h
  have hK1 : W1.heap[D]? = some (.deferred (some [])) := by
    rw [hW1, hD]
    exact (Below.heap_alloc _ _ _ (by simp)).trans (World.alloc_heap_new w _)
  refine ⟨D + 1, [{ target := .collected D, args := #[] }], W1, { target := .fn (.func gf) lb, args := #[.func (.yield (D + 1)) #[] #[]] }, W1, gf, #[.func (.yield (D + 1)) #[] #[]] ++ lb, W1, ?_, ?_, fun _ _ => trivial, ?_, (fun h => by cases h), ?_⟩
  · rw [hW1, hrec, hD]
    exact run_enterLoop_outer _ _ _ _ _
  · simp only [resolve, hg]
    simp [go_sem]
  · simp [invoke, go_sem, eg]
  -- the iterator, under the loop's own word
  have hnl : ∀ {pre : List α} {F : Nat → Prop} {W : World} {k : Nat} {o : Obj}, I pre F W → D ≤ k → W.heap[k]? = some o → o.isCells = false → ¬ F k := by
    intro pre F W k o hi hk ho hc hF
    exact (hI.cells pre F W hi k hF (by omega)).not_loop ho hc
  refine callsIn_wide.2 ((hseq W1 hk1 (.func (.yield (D + 1)) #[] #[])
    (fun pre F W => ∃ Fi, F = (fun k => Fi k ∨ k = D + 1) ∧ I pre Fi W ∧ W.heap[D + 1]? = some (.loop (rec .ready none)) ∧ W.heap[D]? = some (.deferred (some [])))
    (fun pre F W => ∃ Fi, F = (fun k => Fi k ∨ k = D + 1) ∧ Ix pre Fi W ∧ W.heap[D + 1]? = some (.loop (rec .done (some .ret))) ∧ W.heap[D]? = some (.deferred (some [])))
    (fun k => F0 k ∨ k = D + 1) rfl ⟨?own, ?cells⟩ ?ownx ?lt ?apart ?yield ⟨F0, rfl, ownU_kept (hI.own _ _) hk1 h0, hL1, hK1⟩).mono ?behind)
  case own =>
    rintro pre F _ A B row ⟨Fi, rfl, hi, hl, hd⟩ hgr hr
    refine ⟨Fi, rfl, hI.own pre Fi () A B row hi hgr (fun r e => ⟨by have := (hr r e).1; omega, (hr r e).2⟩), ?_, ?_⟩
    · exact (hgr.block _ (Array.getElem?_eq_some_iff.1 hl).1 (fun e => by have := (hr _ e.symm).1; omega)).trans hl
    · exact (hgr.block _ (Array.getElem?_eq_some_iff.1 hd).1 (fun e => by have := (hr _ e.symm).1; omega)).trans hd
  case cells =>
    rintro pre F W ⟨Fi, rfl, hi, hl, hd⟩ k (hk | hk) hB
    · exact hI.cells pre Fi W hi k hk (by omega)
    · omega
  case ownx =>
    rintro pre F _ A B row ⟨Fi, rfl, hi, hl, hd⟩ hgr hr
    refine ⟨Fi, rfl, hIx pre Fi () A B row hi hgr (fun r e => ⟨by have := (hr r e).1; omega, (hr r e).2⟩), ?_, ?_⟩
    · exact (hgr.block _ (Array.getElem?_eq_some_iff.1 hl).1 (fun e => by have := (hr _ e.symm).1; omega)).trans hl
    · exact (hgr.block _ (Array.getElem?_eq_some_iff.1 hd).1 (fun e => by have := (hr _ e.symm).1; omega)).trans hd
  case lt =>
    rintro k (hk | hk)
    · have := hF0 k hk; omega
    · omega
  case apart =>
    rintro k hk (h | h)
    · exact (hX k hk).2 h
    · have := (hX k hk).1; omega
  case yield =>
    rintro pre x post F W hxs ⟨Fi, rfl, hi, hl, hd⟩
    refine .inr ⟨D + 1, rfl, fun n => ?_⟩
    have hy := run_yield (P := P) (args := encs x) hl (by rw [hrec]; exact hps x)
    rw [hrec] at hy
    refine ⟨fn, _, assign, body, hy, roundIn_of_wpIn trivial (hassign _ _ pre x Fi W _ hi ?_)⟩
    intro a' W2 hk2 hax
    have hl2 : W2.heap[D + 1]? = some (.loop (rec .ready none)) := (hk2.block _ (Array.getElem?_eq_some_iff.1 hl).1 (fun h => h)).trans hl
    have hd2 : W2.heap[D]? = some (.deferred (some [])) := (hk2.block _ (Array.getElem?_eq_some_iff.1 hd).1 (fun h => h)).trans hd
    have hi2 := ownU_kept (hI.own _ _) hk2 hi
    refine ⟨_, run_beginRound hl2 (by rw [hrec]), ?_⟩
    obtain ⟨W3, hW3⟩ : ∃ W3, W3 = W2.putObj (D + 1) (.loop { rec .ready none with state := .busy }) := ⟨_, rfl⟩
    have hk3 : Kept (fun k => k = D + 1) W2 W3 := by rw [hW3]; exact Kept.putObj _ _ _
    have hl3 : W3.heap[D + 1]? = some (.loop { rec .ready none with state := .busy }) := by rw [hW3]; exact World.putObj_heap_same (Array.getElem?_eq_some_iff.1 hl2).1
    have hd3 : W3.heap[D]? = some (.deferred (some [])) := (hk3.block _ (Array.getElem?_eq_some_iff.1 hd2).1 (by omega)).trans hd2
    have hi3 : I pre Fi W3 := by rw [hW3]; exact ownU_put (hI.own _ _) _ hi2 (by omega) hl2 rfl
    have hax3 : Ax x a' W3 := by rw [hW3]; exact ownU_put (hAx x a') _ hax (by omega) hl2 rfl
    rw [← hW3]
    have hnl3 : ¬ Fi (D + 1) := hnl hi3 (by omega) hl3 rfl
    have hnd3 : ¬ Fi D := hnl hi3 (by omega) hd3 rfl
    have hk13 : Kept (fun k => Fi k ∨ k = D + 1) W W3 := (hk2.mono (T := fun k => Fi k ∨ k = D + 1) (fun _ _ h => h.elim)).trans hk3 (fun _ _ h => .inr h)
    have hs13 := hk13.size
    refine wpIn_mono (hbody _ _ pre x post Fi a' W3 hxs hi3 hax3) ?_
    rintro e a3 W4 hp
    cases e with
    | normal =>
      obtain ⟨F', hi4, hk4, hF'⟩ := hp
      have hl4 : W4.heap[D + 1]? = some (.loop { rec .ready none with state := .busy }) := (hk4.block _ (Array.getElem?_eq_some_iff.1 hl3).1 hnl3).trans hl3
      have hd4 : W4.heap[D]? = some (.deferred (some [])) := (hk4.block _ (Array.getElem?_eq_some_iff.1 hd3).1 hnd3).trans hd3
      refine ⟨_, _, run_endRound (P := P) none hl4, fun k => F' k ∨ k = D + 1, .inl ⟨rfl, F', rfl, ownU_put (hI.own _ _) _ hi4 (by omega) hl4 rfl, ?_, ?_⟩, ?_, ?_⟩
      · rw [World.putObj_heap_same (Array.getElem?_eq_some_iff.1 hl4).1, hrec]
        rfl
      · exact (World.putObj_heap_other (by omega)).trans hd4
      · exact (hk13.trans hk4 (fun _ _ h => .inl h)).trans (Kept.putObj _ _ _) (fun _ _ h => .inr h)
      · rintro k (h | h)
        · rcases hF' k h with h | h
          · exact .inl (.inl h)
          · exact .inr (by omega)
        · exact .inl (.inr h)
    | ret =>
      obtain ⟨F', hi4, hk4, hF'⟩ := hp
      have hl4 : W4.heap[D + 1]? = some (.loop { rec .ready none with state := .busy }) := (hk4.block _ (Array.getElem?_eq_some_iff.1 hl3).1 hnl3).trans hl3
      have hd4 : W4.heap[D]? = some (.deferred (some [])) := (hk4.block _ (Array.getElem?_eq_some_iff.1 hd3).1 hnd3).trans hd3
      refine ⟨_, _, run_endRound (P := P) (some .ret) hl4, fun k => F' k ∨ k = D + 1, .inr ⟨rfl, F', rfl, ownU_put (hIx _ _) _ hi4 (by omega) hl4 rfl, ?_, ?_⟩, ?_, ?_⟩
      · rw [World.putObj_heap_same (Array.getElem?_eq_some_iff.1 hl4).1, hrec]
        rfl
      · exact (World.putObj_heap_other (by omega)).trans hd4
      · exact (hk13.trans hk4 (fun _ _ h => .inl h)).trans (Kept.putObj _ _ _) (fun _ _ h => .inr h)
      · rintro k (h | h)
        · rcases hF' k h with h | h
          · exact .inl (.inl h)
          · exact .inr (by omega)
        · exact .inl (.inr h)
    | exit id => exact hp.elim
    | goto t => exact hp.elim
    | panic c => exact hp.elim
    | outgrown => exact hp.elim
  case behind =>
    rintro e W2 ⟨⟨v, rfl⟩, (⟨F', Fi, rfl, hi, hl, hd⟩ | ⟨pre, F', hpre, Fi, rfl, hi, hl, hd⟩)⟩
    · have h := run_endLoop (P := P) hl (by rw [hrec]; simp)
      have hp : (rec .ready none).pending = none := by rw [hrec]
      rw [hp] at h
      exact ⟨none, _, h, hdone D Fi _ (by omega) (ownU_put (hI.own _ _) _ hi (by omega) hl rfl) ((World.putObj_heap_other (by omega)).trans hd)⟩
    · have h := run_endLoop (P := P) hl (by rw [hrec]; simp)
      have hp : (rec .done (some .ret)).pending = some .ret := by rw [hrec]
      rw [hp] at h
      exact ⟨some .ret, _, h, wpIn_wide.2 (hstop D pre Fi _ (by omega) hpre (ownU_put (hIx _ _) _ hi (by omega) hl rfl) ((World.putObj_heap_other (by omega)).trans hd))⟩
end

section
variable {n : Nat} {P : Program} {ops : Array Oper} {Q : Exit → Act → World → Prop} {a : Act} {w : World} {rest : List Oper} {d : Nat} {ty : TypeId} {pos : String} {aft : Array Edge} {x y z : Operand} {ts : Array TypeId}
theorem run_callF (ρ : Operand → Value) {dst : Option Tmp} {gd : Option (Nat × Bool)} {gf : Nat} {lb : Array Value} {vy vz : Value} (hx : ρ x = .func (.func gf) #[] lb) (hy : ρ y = vy) (hz : ρ z = vz) (eg : ∀ args w, (callFunc gf args).run P w = .ok (.enter gf args) w) :
    (execOp ρ ⟨dst, .call { callee := .value x, args := #[y, z], argTypes := ts }, ty, pos, aft, gd⟩).run P w = .ok (.enter gf (#[vy, vz] ++ lb)) w := by
  simp [execOp, resolve, invoke, hx, hy, hz, go_sem, eg]
theorem run_callY (ρ : Operand → Value) {dst : Option Tmp} {gd : Option (Nat × Bool)} {l : Nat} {vy vz : Value} {nx : Next} (hx : ρ x = .func (.yield l) #[] #[]) (hy : ρ y = vy) (hz : ρ z = vz) (hr : (Instr.yield l #[vy, vz]).run P w = .ok nx w) :
    (execOp ρ ⟨dst, .call { callee := .value x, args := #[y, z], argTypes := ts }, ty, pos, aft, gd⟩).run P w = .ok nx w := by
  simp [execOp, resolve, invoke, hx, hy, hz, go_sem, hr]
theorem stopi_val {F : Fence} {dst : Option Tmp} {aq : Array Operand} (h : Hid (wpListIn F n P ops Q (⟨dst, .call { callee := .value x, args := aq, argTypes := ts }, ty, pos, aft, none⟩ :: rest) a w)) : wpListIn F n P ops Q (⟨dst, .call { callee := .value x, args := aq, argTypes := ts }, ty, pos, aft, none⟩ :: rest) a w := h.out
theorem stopi_store {F : Fence} {dst : Option Tmp} (t : TypeId) (h : Hid (wpListIn F n P ops Q (⟨dst, .store t x y, ty, pos, aft, none⟩ :: rest) a w)) : wpListIn F n P ops Q (⟨dst, .store t x y, ty, pos, aft, none⟩ :: rest) a w := h.out
theorem stopi_bs {F : Fence} {dst : Option Tmp} (t : TypeId) {m : Nat} {es : Array (Nat × Operand)} (h : Hid (wpListIn F n P ops Q (⟨dst, .buildSlice t m es, ty, pos, aft, none⟩ :: rest) a w)) : wpListIn F n P ops Q (⟨dst, .buildSlice t m es, ty, pos, aft, none⟩ :: rest) a w := h.out
theorem stopi_app {F : Fence} {dst : Option Tmp} (t u : TypeId) (h : Hid (wpListIn F n P ops Q (⟨dst, .call { callee := .builtin .append, args := #[x, y], argTypes := #[t, u] }, ty, pos, aft, none⟩ :: rest) a w)) : wpListIn F n P ops Q (⟨dst, .call { callee := .builtin .append, args := #[x, y], argTypes := #[t, u] }, ty, pos, aft, none⟩ :: rest) a w := h.out
/-- A call of a function value. -/
theorem ai_yc {yv vy vz : Value} {R : Ending → World → Prop} (hx : a.eval x = yv) (hy : a.eval y = vy) (hz : a.eval z = vz) (hc : YC P yv #[vy, vz] w R)
    (h : ∀ e w', R e w' → ∃ v, e = .returned v ∧ wpListIn Fence.wide n P ops Q rest (a.put (some d) v) w') :
    wpListIn Fence.wide n P ops Q (⟨some d, .call { callee := .value x, args := #[y, z], argTypes := ts }, ty, pos, aft, none⟩ :: rest) a w := by
  refine wpListIn_plain rfl fun K hK => ⟨fun _ _ => trivial, ?_⟩
  rw [Oper.semAt_eq _ _ _ (fun _ => by simp)]
  rcases hc with ⟨gf, lb, rfl, eg, hc⟩ | ⟨l, rfl, hc⟩
  · rw [run_callF a.eval hx hy hz eg]
    refine ⟨fun e => (by cases e), callsIn_wide.2 (hc.mono ?_)⟩
    rintro e w' hR
    obtain ⟨v, rfl, h2⟩ := h e w' hR
    exact hK _ _ h2
  · obtain ⟨fn, tmps, assign, body, hr, hro⟩ := hc (n - 1)
    rw [run_callY a.eval hx hy hz hr]
    refine ⟨fun e => (by cases e), hro.mono ?_⟩
    rintro e w' hR
    obtain ⟨v, rfl, h2⟩ := h e w' hR
    exact hK _ _ h2
theorem ai_yc_in {lo : Nat} {yv vy vz : Value} {R : Ending → World → Prop} (hx : a.eval x = yv) (hy : a.eval y = vy) (hz : a.eval z = vz) (hc : YC P yv #[vy, vz] w R)
    (h : ∀ e w', R e w' → ∃ v, e = .returned v ∧ wpListIn (Fence.wide.inRound lo) n P ops Q rest (a.put (some d) v) w') :
    wpListIn (Fence.wide.inRound lo) n P ops Q (⟨some d, .call { callee := .value x, args := #[y, z], argTypes := ts }, ty, pos, aft, none⟩ :: rest) a w := by
  refine wpListIn_plain rfl fun K hK => ⟨fun _ _ => trivial, ?_⟩
  rw [Oper.semAt_eq _ _ _ (fun _ => by simp)]
  rcases hc with ⟨gf, lb, rfl, eg, hc⟩ | ⟨l, rfl, hc⟩
  · rw [run_callF a.eval hx hy hz eg]
    refine ⟨fun e => (by cases e), CallsIn.inRound lo (callsIn_wide.2 (hc.mono ?_))⟩
    rintro e w' hR
    obtain ⟨v, rfl, h2⟩ := h e w' hR
    exact hK _ _ h2
  · obtain ⟨fn, tmps, assign, body, hr, hro⟩ := hc (n - 1)
    rw [run_callY a.eval hx hy hz hr]
    refine ⟨fun e => (by cases e), (hro.mono ?_ : RoundIn Fence.wide (n - 1) P l fn tmps assign body w _)⟩
    rintro e w' hR
    obtain ⟨v, rfl, h2⟩ := h e w' hR
    exact hK _ _ h2
end

end Go.Proofs.Ytclfklcboigifaa
