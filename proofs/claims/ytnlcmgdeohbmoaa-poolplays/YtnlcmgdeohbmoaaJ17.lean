/-
  Sequences of pairs (what is handed on is an array of values), and a range over such a one. Nothing of a program's dump is used here.
-/
import Derived.Test.YtnlcmgdeohbmoaaJ16
namespace Go.Proofs.Ytnlcmgdeohbmoaa
open Go.RowKit Go.Shelf
set_option linter.unusedSimpArgs false
set_option linter.unusedVariables false
set_option maxRecDepth 100000

/-- Something stands for x: the value v, with the blocks G that go with it. -/
abbrev EncR2 (α : Type) := α → Array Value → NSet → World → Prop
def EOk2 {α : Type} (X : NSet) (E : EncR2 α) : Prop := ∀ x v G W W' S, E x v G W → Kept S W W' → (∀ k, S k → ¬ G k ∧ ¬ X k) → E x v G W'

def Takes2 (P : Program) {α : Type} (E : EncR2 α) (xs : List α) (B : Nat) (F0 : NSet) (tv : Value) (J Jx : List α → NSet → World → Prop) : Prop :=
  ∀ pre x post F G v W, xs = pre ++ x :: post → J pre F W → B ≤ W.heap.size → (∀ k, F k → F0 k ∨ B ≤ k) → E x v G W → (∀ k, G k → ¬ F k ∧ B ≤ k ∧ k < W.heap.size) →
    YC P tv v W (Handed J Jx (pre ++ [x]) F G W)
/-- In the world W the sequence sv hands xs on, one after the other, till it is told to end. -/
def FSeqAt2 (P : Program) (sv : Value) {α : Type} (E : EncR2 α) (xs : List α) (X C : NSet) (Post : Bool → List α → World → Prop) (W : World) : Prop :=
  ∀ (tv : Value) (J Jx : List α → NSet → World → Prop) (F0 : NSet),
    IsFn tv → (∀ pre, Stab W.heap.size C (J pre)) → (∀ pre, Stab W.heap.size C (Jx pre)) → (∀ k, F0 k → ¬ X k ∧ ¬ C k) →
    Takes2 P E xs W.heap.size F0 tv J Jx → J [] F0 W → YC P sv #[tv] W (FEnded J Jx xs C Post F0 W)
structure SeqOk2 (P : Program) (sv : Value) {α : Type} (E : EncR2 α) (xs : List α) (X C : NSet) (Post : Bool → List α → World → Prop) (W : World) : Prop where
  fn : IsFn sv ∨ (sv = .nilFunc ∧ xs = [] ∧ ∀ W, Post true [] W)
  lt : ∀ k, X k ∨ C k → k < W.heap.size
  apart : ∀ k, X k → ¬ C k
  enc : EOk2 X E
  post : ∀ b pre W W' S, Post b pre W → Kept S W W' → (∀ k, S k → ¬ C k) → Post b pre W'
  run : IsFn sv → ∀ W' S, Kept S W W' → (∀ k, S k → ¬ X k ∧ ¬ C k) → FSeqAt2 P sv E xs X C Post W'
theorem SeqOk2.kept {P : Program} {sv : Value} {α : Type} {E : EncR2 α} {xs : List α} {X C : NSet} {Post : Bool → List α → World → Prop} {W W' : World} {S : NSet} (h : SeqOk2 P sv E xs X C Post W) (hk : Kept S W W') (hS : ∀ k, S k → ¬ X k ∧ ¬ C k) : SeqOk2 P sv E xs X C Post W' :=
  ⟨h.fn, fun k hx => Nat.lt_of_lt_of_le (h.lt k hx) hk.size, h.apart, h.enc, h.post, fun hf W'' S' hk' hS' => h.run hf W'' (fun k => S k ∨ S' k) ((hk.mono (T := fun k => S k ∨ S' k) (fun _ _ h => .inl h)).trans hk' (fun _ _ h => .inr h)) (fun k hs => hs.elim (hS k) (hS' k))⟩
theorem SeqOk2.cells {P : Program} {sv : Value} {α : Type} {E : EncR2 α} {xs : List α} {X C : NSet} {Post : Bool → List α → World → Prop} {W : World} (h : SeqOk2 P sv E xs X C Post W) : sv.cells = #[sv] := by
  rcases h.fn with ⟨_, _, rfl⟩ | ⟨rfl, _⟩ <;> rfl

section
variable {P : Program} {α : Type} {g : Operand} {ps : Array Tmp} {assign body : Code} {Q : Exit → Act → World → Prop} {a : Act} {w : World}

theorem rangeFS2 {gf : Nat} {lb : Array Value} (hg : a.eval g = .func (.func gf) #[] lb) {E : EncR2 α} {xs : List α} {X C : NSet} {Post : Bool → List α → World → Prop} (hs : SeqOk2 P (.func (.func gf) #[] lb) E xs X C Post w) (hps : ∀ x v G W, E x v G W → v.size = ps.size)
    (I Ix : List α → NSet → World → Prop) (hI : ∀ pre, Stab w.heap.size C (I pre)) (hIx : ∀ pre, Stab w.heap.size C (Ix pre)) (F0 : NSet) (hF0 : ∀ k, F0 k → ¬ X k ∧ ¬ C k) (h0 : I [] F0 w)
    (Ax : α → Array Value → Act → World → Prop) (hAx : ∀ x v a', OwnFrom w.heap.size (fun (_ : Unit) W => Ax x v a' W))
    (hassign : ∀ (l n : Nat) (pre : List α) (x : α) (v : Array Value) (F G : NSet) (W : World) (K : Act → World → Prop), I pre F W → E x v G W → (∀ a' W', Kept (fun _ => False) W W' → Ax x v a' W' → K a' W') →
      assign.wpIn (Fence.wide.inRound l) n P (Exit.then K (fun _ _ _ => False)) { tmps := (ps.zip v).foldl (fun t (p, v) => t.setIfInBounds p v) a.tmps, defers := [] } W)
    (hbody : ∀ (l n : Nat) (pre : List α) (x : α) (post : List α) (v : Array Value) (F G : NSet) (a' : Act) (W : World), xs = pre ++ x :: post → I pre F W → w.heap.size ≤ W.heap.size → (∀ k, F k → F0 k ∨ w.heap.size ≤ k) → E x v G W → (∀ k, G k → ¬ F k ∧ w.heap.size ≤ k ∧ k < W.heap.size) → Ax x v a' W → body.wpIn (Fence.wide.inRound l) n P (bodyFS I Ix (pre ++ [x]) F G W) a' W)
    (hdone : ∀ (D : Nat) (F : NSet) (W : World), w.heap.size ≤ D → I xs F W → (∀ k, F k → F0 k ∨ w.heap.size ≤ k) → ¬ F D → Kept (fun k => F0 k ∨ C k) w W → Post true xs W → W.heap[D]? = some (.deferred (some [])) → Q .normal { a with defers := { target := .collected D, args := #[] } :: a.defers } W)
    (hstop : ∀ (D : Nat) (pre : List α) (F : NSet) (W : World), w.heap.size ≤ D → (∃ post, xs = pre ++ post) → Ix pre F W → (∀ k, F k → F0 k ∨ w.heap.size ≤ k) → ¬ F D → Kept (fun k => F0 k ∨ C k) w W → Post false pre W → W.heap[D]? = some (.deferred (some [])) → Code.ret.wp P Q { a with defers := { target := .collected D, args := #[] } :: a.defers } W) :
    (Code.rangeFunc g ps assign body).wp P Q a w := by
  refine (wpIn_wide (n := 2)).1 (wpIn_rangeFunc ?_)
  intro fn _
  obtain ⟨D, hD⟩ : ∃ D, D = w.heap.size := ⟨_, rfl⟩
  obtain ⟨rec, hrec⟩ : ∃ rec : LoopState → Option Code → Loop, rec = fun st pe => { state := st, pending := pe, fn, tmps := a.tmps, params := ps, assign, body, defers := D } := ⟨_, rfl⟩
  obtain ⟨W1, hW1⟩ : ∃ W1, W1 = (w.alloc (.deferred (some []))).alloc (.loop (rec .ready none)) := ⟨_, rfl⟩
  have hk1 : Kept (fun _ => False) w W1 := by rw [hW1]; exact (Kept.alloc _ w _).trans (Kept.alloc (fun _ => False) _ _) (fun _ _ h => h)
  have hs1 : W1.heap.size = D + 2 := by rw [hW1, hD]; simp
  have hL1 : W1.heap[D + 1]? = some (.loop (rec .ready none)) := by
    have h := World.alloc_heap_new (w.alloc (.deferred (some []))) (.loop (rec .ready none))
    rw [World.size_alloc, ← hD] at h
    rw [hW1]
    exact h
  have hK1 : W1.heap[D]? = some (.deferred (some [])) := by
    rw [hW1, hD]
    exact (Below.heap_alloc _ _ _ (by simp)).trans (World.alloc_heap_new w _)
  have hXC : ∀ k, X k ∨ C k → k < D := fun k h => by rw [hD]; exact hs.lt k h
  have hF0l : ∀ k, F0 k → k < D := fun k h => by rw [hD]; exact (hI []).lt _ _ h0 k h
  have hyc : YC P (.func (.func gf) #[] lb) #[.func (.yield (D + 1)) #[] #[]] W1 _ := hs.run ⟨_, _, rfl⟩ W1 _ hk1 (fun _ h => h.elim) (.func (.yield (D + 1)) #[] #[])
    (fun pre F W => ∃ Fi, F = (fun k => Fi k ∨ k = D + 1) ∧ I pre Fi W ∧ ¬ Fi (D + 1) ∧ ¬ Fi D ∧ W.heap[D + 1]? = some (.loop (rec .ready none)) ∧ W.heap[D]? = some (.deferred (some [])))
    (fun pre F W => ∃ Fi, F = (fun k => Fi k ∨ k = D + 1) ∧ Ix pre Fi W ∧ ¬ Fi (D + 1) ∧ ¬ Fi D ∧ W.heap[D + 1]? = some (.loop (rec .done (some .ret))) ∧ W.heap[D]? = some (.deferred (some [])))
    (fun k => F0 k ∨ k = D + 1) ⟨_, _, rfl⟩ ?stabJ ?stabX ?apart ?takes ⟨F0, rfl, (hI []).none h0 hk1, fun h => by have := hF0l _ h; omega, fun h => by have := hF0l _ h; omega, hL1, hK1⟩
  case stabJ =>
    intro pre
    refine ⟨?_, ?_⟩
    · rintro F W ⟨Fi, rfl, hi, hn1, hn2, hl, hd⟩ k (h | h)
      · exact (hI pre).lt _ _ hi k h
      · rw [h]; exact (Array.getElem?_eq_some_iff.1 hl).1
    · rintro F W W' S ⟨Fi, rfl, hi, hn1, hn2, hl, hd⟩ hk h1 h2
      refine ⟨Fi, rfl, (hI pre).kept _ _ _ _ hi hk (fun k hs hf => h1 k hs (.inl hf)) (fun k hs hl => h2 k hs (by omega)), hn1, hn2, ?_, ?_⟩
      · exact (hk.block _ (Array.getElem?_eq_some_iff.1 hl).1 (fun h => h1 _ h (.inr rfl))).trans hl
      · exact (hk.block _ (Array.getElem?_eq_some_iff.1 hd).1 (fun h => by have := hXC _ (.inr (h2 D h (by omega))); omega)).trans hd
  case stabX =>
    intro pre
    refine ⟨?_, ?_⟩
    · rintro F W ⟨Fi, rfl, hi, hn1, hn2, hl, hd⟩ k (h | h)
      · exact (hIx pre).lt _ _ hi k h
      · rw [h]; exact (Array.getElem?_eq_some_iff.1 hl).1
    · rintro F W W' S ⟨Fi, rfl, hi, hn1, hn2, hl, hd⟩ hk h1 h2
      refine ⟨Fi, rfl, (hIx pre).kept _ _ _ _ hi hk (fun k hs hf => h1 k hs (.inl hf)) (fun k hs hl => h2 k hs (by omega)), hn1, hn2, ?_, ?_⟩
      · exact (hk.block _ (Array.getElem?_eq_some_iff.1 hl).1 (fun h => h1 _ h (.inr rfl))).trans hl
      · exact (hk.block _ (Array.getElem?_eq_some_iff.1 hd).1 (fun h => by have := hXC _ (.inr (h2 D h (by omega))); omega)).trans hd
  case apart =>
    rintro k (h | h)
    · exact hF0 k h
    · exact ⟨fun hx => by have := hXC k (.inl hx); omega, fun hx => by have := hXC k (.inr hx); omega⟩
  case takes =>
    rintro pre x post F G v W hxs ⟨Fi, rfl, hi, hn1, hn2, hl, hd⟩ hBW hF hE hG
    refine .inr ⟨D + 1, rfl, fun n => ?_⟩
    have hy := run_yield (P := P) (args := v) hl (by rw [hrec]; exact hps _ _ _ _ hE)
    rw [hrec] at hy
    have hGl : ¬ G (D + 1) := fun h => by have := (hG _ h).2; omega
    have hGd : ¬ G D := fun h => by have := (hG _ h).2; omega
    refine ⟨fn, _, assign, body, hy, roundIn_of_wpIn trivial (hassign _ _ pre x v Fi G W _ hi hE ?_)⟩
    intro a' W2 hk2 hax
    have hl2 : W2.heap[D + 1]? = some (.loop (rec .ready none)) := (hk2.block _ (Array.getElem?_eq_some_iff.1 hl).1 (fun h => h)).trans hl
    have hd2 : W2.heap[D]? = some (.deferred (some [])) := (hk2.block _ (Array.getElem?_eq_some_iff.1 hd).1 (fun h => h)).trans hd
    refine ⟨_, run_beginRound hl2 (by rw [hrec]), ?_⟩
    obtain ⟨W3, hW3⟩ : ∃ W3, W3 = W2.putObj (D + 1) (.loop { rec .ready none with state := .busy }) := ⟨_, rfl⟩
    have hk3 : Kept (fun k => k = D + 1) W2 W3 := by rw [hW3]; exact Kept.putObj _ _ _
    have hl3 : W3.heap[D + 1]? = some (.loop { rec .ready none with state := .busy }) := by rw [hW3]; exact World.putObj_heap_same (Array.getElem?_eq_some_iff.1 hl2).1
    have hd3 : W3.heap[D]? = some (.deferred (some [])) := (hk3.block _ (Array.getElem?_eq_some_iff.1 hd2).1 (by omega)).trans hd2
    have hi3 : I pre Fi W3 := (hI pre).kept _ _ _ _ ((hI pre).none hi hk2) hk3 (fun k h1 h2 => hn1 (h1 ▸ h2)) (fun k h1 h2 => by omega)
    have hax3 : Ax x v a' W3 := by rw [hW3]; exact ownU_put (hAx x v a') _ hax (by omega) hl2 rfl
    have hE3 : E x v G W3 := hs.enc _ _ _ _ _ _ (hs.enc _ _ _ _ _ _ hE hk2 (fun _ h => h.elim)) hk3 (fun k h => ⟨fun h' => hGl (h ▸ h'), fun h' => by have := hXC k (.inl h'); omega⟩)
    rw [← hW3]
    have hk13 : Kept (fun k => (Fi k ∨ k = D + 1) ∨ G k) W W3 := (hk2.mono (T := fun k => (Fi k ∨ k = D + 1) ∨ G k) (fun _ _ h => h.elim)).trans hk3 (fun _ _ h => .inl (.inr h))
    have hs13 := hk13.size
    refine wpIn_mono (hbody _ _ pre x post v Fi G a' W3 hxs hi3 (by omega) (fun k hk => by
      rcases hF k (.inl hk) with (h | h) | h
      · exact .inl h
      · exact .inr (by omega)
      · exact .inr (by omega)) hE3 (fun k hk => ⟨fun h => (hG k hk).1 (.inl h), by have := (hG k hk).2; omega, by have := (hG k hk).2; omega⟩) hax3) ?_
    have hszW : D + 1 < W.heap.size := (Array.getElem?_eq_some_iff.1 hl).1
    rintro e a3 W4 hp
    cases e with
    | normal =>
      obtain ⟨F', hi4, hk4, hF'⟩ := hp
      have hn' : ∀ j, j < W.heap.size → ¬ Fi j → ¬ G j → ¬ F' j := fun j hj h1 h2 h3 => by
        rcases hF' j h3 with h | h | h
        · exact h1 h
        · exact h2 h
        · omega
      have hl4 : W4.heap[D + 1]? = some (.loop { rec .ready none with state := .busy }) := (hk4.block _ (Array.getElem?_eq_some_iff.1 hl3).1 (fun h => h.elim hn1 hGl)).trans hl3
      have hd4 : W4.heap[D]? = some (.deferred (some [])) := (hk4.block _ (Array.getElem?_eq_some_iff.1 hd3).1 (fun h => h.elim hn2 hGd)).trans hd3
      have hnl := hn' (D + 1) hszW hn1 hGl
      have hnd := hn' D (by omega) hn2 hGd
      refine ⟨_, _, run_endRound (P := P) none hl4, fun k => F' k ∨ k = D + 1, .inl ⟨rfl, F', rfl, (hI _).kept _ _ _ _ hi4 (Kept.putObj _ _ _) (fun k h1 h2 => hnl (h1 ▸ h2)) (fun k h1 h2 => by omega), hnl, hnd, ?_, ?_⟩, ?_, ?_⟩
      · rw [World.putObj_heap_same (Array.getElem?_eq_some_iff.1 hl4).1, hrec]
        rfl
      · exact (World.putObj_heap_other (by omega)).trans hd4
      · exact (hk13.trans hk4 (fun _ _ h => h.elim (fun h => .inl (.inl h)) .inr)).trans (Kept.putObj _ _ _) (fun _ _ h => .inl (.inr h))
      · rintro k (h | h)
        · rcases hF' k h with h | h | h
          · exact .inl (.inl h)
          · exact .inr (.inl h)
          · exact .inr (.inr (by omega))
        · exact .inl (.inr h)
    | ret =>
      obtain ⟨F', hi4, hk4, hF'⟩ := hp
      have hn' : ∀ j, j < W.heap.size → ¬ Fi j → ¬ G j → ¬ F' j := fun j hj h1 h2 h3 => by
        rcases hF' j h3 with h | h | h
        · exact h1 h
        · exact h2 h
        · omega
      have hl4 : W4.heap[D + 1]? = some (.loop { rec .ready none with state := .busy }) := (hk4.block _ (Array.getElem?_eq_some_iff.1 hl3).1 (fun h => h.elim hn1 hGl)).trans hl3
      have hd4 : W4.heap[D]? = some (.deferred (some [])) := (hk4.block _ (Array.getElem?_eq_some_iff.1 hd3).1 (fun h => h.elim hn2 hGd)).trans hd3
      have hnl := hn' (D + 1) hszW hn1 hGl
      have hnd := hn' D (by omega) hn2 hGd
      refine ⟨_, _, run_endRound (P := P) (some .ret) hl4, fun k => F' k ∨ k = D + 1, .inr ⟨rfl, F', rfl, (hIx _).kept _ _ _ _ hi4 (Kept.putObj _ _ _) (fun k h1 h2 => hnl (h1 ▸ h2)) (fun k h1 h2 => by omega), hnl, hnd, ?_, ?_⟩, ?_, ?_⟩
      · rw [World.putObj_heap_same (Array.getElem?_eq_some_iff.1 hl4).1, hrec]
        rfl
      · exact (World.putObj_heap_other (by omega)).trans hd4
      · exact (hk13.trans hk4 (fun _ _ h => h.elim (fun h => .inl (.inl h)) .inr)).trans (Kept.putObj _ _ _) (fun _ _ h => .inl (.inr h))
      · rintro k (h | h)
        · rcases hF' k h with h | h | h
          · exact .inl (.inl h)
          · exact .inr (.inl h)
          · exact .inr (.inr (by omega))
        · exact .inl (.inr h)
    | exit id => exact hp.elim
    | goto t => exact hp.elim
    | panic c => exact hp.elim
    | outgrown => exact hp.elim
  rcases hyc with ⟨gf', lb', he, eg, hc⟩ | ⟨l', he, _⟩
  case inr => cases he
  cases he
  refine ⟨D + 1, [{ target := .collected D, args := #[] }], W1, { target := .fn (.func gf) lb, args := #[.func (.yield (D + 1)) #[] #[]] }, W1, gf, #[.func (.yield (D + 1)) #[] #[]] ++ lb, W1, ?_, ?_, fun _ _ => trivial, ?_, (fun h => by cases h), ?_⟩
  · rw [hW1, hrec, hD]
    exact run_enterLoop_outer _ _ _ _ _
  · simp only [resolve, hg]
    simp [go_sem]
  · simp [invoke, go_sem, eg]
  refine callsIn_wide.2 (hc.mono ?_)
  rintro e W2 ⟨⟨v, rfl⟩, b, hkW, hcase⟩
  have hkw2 : Kept (fun k => F0 k ∨ C k) w W2 := (hk1.mono (T := fun k => F0 k ∨ C k) (fun _ _ h => h.elim)).trans hkW (fun k hk h => by
    rcases h with (h | h) | h
    · exact .inl h
    · omega
    · exact .inr h)
  have hput : ∀ o, Kept (fun k => F0 k ∨ C k) w (W2.putObj (D + 1) o) := fun o => hkw2.trans (Kept.putObj _ _ _) (fun k hk h => by omega)
  have hpost : ∀ b pre o, Post b pre W2 → Post b pre (W2.putObj (D + 1) o) := fun b pre o h => hs.post _ _ _ _ _ h (Kept.putObj _ _ _) (fun k h1 h2 => by have := hXC k (.inr h2); omega)
  have hFo : ∀ Fi : NSet, (∀ k, (Fi k ∨ k = D + 1) → (F0 k ∨ k = D + 1) ∨ W1.heap.size ≤ k) → ∀ k, Fi k → F0 k ∨ w.heap.size ≤ k := fun Fi h k hk => by
    rcases h k (.inl hk) with (h | h) | h
    · exact .inl h
    · exact .inr (by omega)
    · exact .inr (by omega)
  rcases hcase with ⟨rfl, F', ⟨Fi, rfl, hi, hn1, hn2, hl, hd⟩, hF', hP⟩ | ⟨rfl, pre, F', hpre, ⟨Fi, rfl, hi, hn1, hn2, hl, hd⟩, hF', hP⟩
  · have h := run_endLoop (P := P) hl (by rw [hrec]; simp)
    have hp : (rec .ready none).pending = none := by rw [hrec]
    rw [hp] at h
    exact ⟨none, _, h, hdone D Fi _ (by omega) ((hI _).kept _ _ _ _ hi (Kept.putObj _ _ _) (fun k h1 h2 => hn1 (h1 ▸ h2)) (fun k h1 h2 => by omega)) (hFo Fi hF') hn2 (hput _) (hpost _ _ _ hP) ((World.putObj_heap_other (by omega)).trans hd)⟩
  · have h := run_endLoop (P := P) hl (by rw [hrec]; simp)
    have hp : (rec .done (some .ret)).pending = some .ret := by rw [hrec]
    rw [hp] at h
    exact ⟨some .ret, _, h, wpIn_wide.2 (hstop D pre Fi _ (by omega) hpre ((hIx _).kept _ _ _ _ hi (Kept.putObj _ _ _) (fun k h1 h2 => hn1 (h1 ▸ h2)) (fun k h1 h2 => by omega)) (hFo Fi hF') hn2 (hput _) (hpost _ _ _ hP) ((World.putObj_heap_other (by omega)).trans hd))⟩
end
end Go.Proofs.Ytnlcmgdeohbmoaa

/-
  All, of package image, as a sequence of pairs.
-/
namespace Go.Proofs.Ytnlcmgdeohbmoaa
open Go.RowKit Go.Shelf
set_option linter.unusedSimpArgs false
set_option linter.unusedVariables false
set_option maxRecDepth 100000
attribute [local go_sem] Oper.semAt_some

/-- A disk, with the blocks that it stands on. -/
def DkL (w : World) (d : Value) (n : Nat) (B : List Nat) (X : NSet) : Prop :=
  (n = 0 ∧ B = [] ∧ d = .pointer none ∧ ∀ k, ¬ X k) ∨
  (1 ≤ n ∧ n ≤ 64 ∧ B.length = 64 * n ∧ (∀ x ∈ B, x < 256) ∧ ∃ b g cap C, d = .pointer (some ⟨b, 0, none⟩) ∧ Blk w b [.slice (some ⟨g, 0, none⟩) n cap] 118 ∧ Blk w g (BV B ++ C) 119 ∧ (n ≤ cap ∧ cap ≤ maxLen ∧ C.length = (cap - n) * 64) ∧ ∀ k, X k ↔ k = b ∨ k = g)
theorem DkAt.l {w : World} {d : Value} {n : Nat} {B : List Nat} (h : DkAt w d n B) : ∃ X, DkL w d n B X := by
  rcases h with ⟨h1, h2, h3⟩ | ⟨h1, h2, h3, h4, b, g, cap, C, h5, h6, h7, h8⟩
  · exact ⟨fun _ => False, .inl ⟨h1, h2, h3, fun _ h => h⟩⟩
  · exact ⟨fun k => k = b ∨ k = g, .inr ⟨h1, h2, h3, h4, b, g, cap, C, h5, h6, h7, h8, fun _ => Iff.rfl⟩⟩
theorem DkL.at {w : World} {d : Value} {n : Nat} {B : List Nat} {X : NSet} (h : DkL w d n B X) : DkAt w d n B := by
  rcases h with ⟨h1, h2, h3, _⟩ | ⟨h1, h2, h3, h4, b, g, cap, C, h5, h6, h7, h8, _⟩
  · exact .inl ⟨h1, h2, h3⟩
  · exact .inr ⟨h1, h2, h3, h4, b, g, cap, C, h5, h6, h7, h8⟩
theorem DkL.lt {w : World} {d : Value} {n : Nat} {B : List Nat} {X : NSet} (h : DkL w d n B X) : ∀ k, X k → k < w.heap.size := by
  rcases h with ⟨_, _, _, h⟩ | ⟨h1, h2, h3, h4, b, g, cap, C, h5, h6, h7, h8, h9⟩
  · exact fun k hk => (h k hk).elim
  · intro k hk
    rcases (h9 k).1 hk with rfl | rfl
    · exact h6.lt
    · exact h7.lt
theorem DkL.kept {w w' : World} {d : Value} {n : Nat} {B : List Nat} {X S : NSet} (h : DkL w d n B X) (hk : Kept S w w') (hS : ∀ k, S k → ¬ X k) : DkL w' d n B X := by
  rcases h with h | ⟨h1, h2, h3, h4, b, g, cap, C, h5, h6, h7, h8, h9⟩
  · exact .inl h
  · exact .inr ⟨h1, h2, h3, h4, b, g, cap, C, h5, hk.blk h6 (fun h => hS _ h ((h9 _).2 (.inl rfl))), hk.blk h7 (fun h => hS _ h ((h9 _).2 (.inr rfl))), h8, h9⟩
theorem DkL.ne {w : World} {d : Value} {n g : Nat} {B : List Nat} {X : NSet} {L : List Value} {t : TypeId} (h : DkL w d n B X) (hb : Blk w g L t) (h1 : t ≠ 118) (h2 : t ≠ 119) : ¬ X g := by
  rcases h with ⟨_, _, _, h⟩ | ⟨_, _, _, _, b, g', cap, C, h5, h6, h7, h8, h9⟩
  · exact h g
  · intro hx
    rcases (h9 g).1 hx with rfl | rfl
    · exact h1 (hb.same h6).2
    · exact h2 (hb.same h7).2
/-- A block that is handed on: its number, and a slice of one's own. -/
def EK (B : List Nat) : EncR2 Nat := fun k v G W => ∃ s : Sl, v = #[.int .i64 k, .slice s.a s.n s.c] ∧ Own W 0 s.v (getB B k) ∧ ∀ j, G j ↔ s.v.ownBlock = some j
theorem EK.ok (B : List Nat) (X : NSet) : EOk2 X (EK B) := by
  rintro k v G W W' S ⟨s, h1, h2, h3⟩ hk hS
  exact ⟨s, h1, h2.kept hk (fun j hj h => (hS j h).1 ((h3 j).2 hj)), h3⟩

section
variable {n : Nat} {P : Program} {ops : Array Oper} {Q : Exit → Act → World → Prop} {a : Act} {w : World} {rest : List Oper} {dst : Option Tmp} {ty : TypeId} {pos : String} {aft : Array Edge} {x y z u : Operand} {ts : Array TypeId} {gd : Option (Nat × Bool)}
theorem stopi_slice1 {F : Fence} (t : TypeId) {l h m : Option Operand} (hh : Hid (wpListIn F n P ops Q (⟨dst, .slice t x l h m, ty, pos, aft, none⟩ :: rest) a w)) : wpListIn F n P ops Q (⟨dst, .slice t x l h m, ty, pos, aft, none⟩ :: rest) a w := hh.out
theorem stopi_callF1 {F : Fence} (g : Nat) (h : Hid (wpListIn F n P ops Q (⟨dst, .call { callee := .value (.func g), args := #[x], argTypes := ts }, ty, pos, aft, gd⟩ :: rest) a w)) : wpListIn F n P ops Q (⟨dst, .call { callee := .value (.func g), args := #[x], argTypes := ts }, ty, pos, aft, gd⟩ :: rest) a w := h.out
theorem ai_call1 {d gf : Nat} {vx : Value} {R : Ending → World → Prop} (hw : Region.wanted ⟨some d, .call { callee := .value u, args := #[x], argTypes := ts }, ty, pos, aft, gd⟩ (yielded ops a.tmps) = true) (hu : a.eval u = .func (.func gf) #[] #[]) (hx : a.eval x = vx) (eg : ∀ args w, (callFunc gf args).run P w = .ok (.enter gf args) w) (hc : Calls P gf #[vx] w R)
    (h : ∀ e w', R e w' → ∃ v, e = .returned v ∧ wpListIn Fence.wide n P ops Q rest (a.put (some d) v) w') :
    wpListIn Fence.wide n P ops Q (⟨some d, .call { callee := .value u, args := #[x], argTypes := ts }, ty, pos, aft, gd⟩ :: rest) a w := by
  refine wpListIn_step fun K hK => ?_
  rw [if_pos hw]
  refine ⟨fun _ _ => trivial, ?_⟩
  rw [Oper.semAt_eq _ _ _ (fun _ => by simp)]
  rw [run_cF1 a.eval hu hx eg]
  refine ⟨fun e => (by cases e), callsIn_wide.2 ((show Calls P gf (#[vx] ++ #[]) w R from hc).mono ?_)⟩
  rintro e w' hR
  obtain ⟨v, rfl, h2⟩ := h e w' hR
  exact hK _ _ h2
end

set_option maxHeartbeats 4000000 in
theorem all1_at {d : Value} {n e0 : Nat} {B : List Nat} {X : NSet} {W : World} (hd : DkL W d n B X) (he : Blk W e0 [d] 44) :
    FSeqAt2 Try.prog (.func (.func 65) #[] #[.pointer (some ⟨e0, 0, none⟩)]) (EK B) (List.range n) (fun k => k = e0 ∨ X k) (fun _ => False) (fun _ _ _ => True) W := by
  intro tv J Jx F0 htv hJ hJx hF0 ht h0
  have HJ := hide hJ
  have HT := hide ht
  have H0 := hide h0
  have HF0 := hide hF0
  have HD := hide hd
  have HE := hide he
  have hn64 := hd.at.le
  obtain ⟨a0, rfl, ha0⟩ := hd.at.ptr
  have HA0 := hide ha0
  have hlte := he.lt
  clear hd he hJ hJx ht h0 hF0 ha0
  refine .inl ⟨_, _, rfl, enters_of Try.func65 (by kernel_rfl) rfl, ?_⟩
  show Calls Try.prog 65 #[tv, .pointer (some ⟨e0, 0, none⟩)] W _
  refine (callsIn_wide (n := 4)).1 (callsIn_of_wp Try.func65 rfl trivial ?_ rfl)
  simp only [Try.ntmps65, List.size_toArray, List.length_cons, List.length_nil, Nat.reduceAdd, Nat.reduceSub, Array.replicate_succ, Array.replicate_zero, List.push_toArray, List.append_toArray, List.nil_append, List.cons_append]
  have c0 : W.cell? ⟨e0, 0, none⟩ = some (.pointer a0) := HE.out.cell 0
  gi_wp2_with (with_reducible refine stopi_callF1 66 ?_)
  refine hide ?_
  refine ai_call1 (gf := 66) rfl rfl rfl (enters_of Try.func66 (by kernel_rfl) rfl) (blocks_at W _ n B HD.out.at) ?_
  rintro e w1 ⟨rfl, rfl⟩
  refine ⟨_, rfl, ?_⟩
  try simp only [put_lit, put_none, List.set_cons_succ, List.set_cons_zero]
  gi_wp2
  gi_loopw [6] (fun i wr => ∃ (k : Nat) (F : NSet), i = .int .i64 k ∧ k ≤ n ∧ Hid (J (List.range k) F wr) ∧ Hid (∀ k, F k → F0 k ∨ W.heap.size ≤ k) ∧ Hid (Kept F0 W wr))
    (fun i _ => n - (intOf i).toNat)
  case atStart => exact ⟨0, F0, rfl, Nat.zero_le _, hide H0.out, hide (fun k h => .inl h), hide (Kept.refl _ _)⟩
  case round =>
    obtain ⟨k, F, rfl, hk, hJk, hFk, hKk⟩ := hrel
    by_cases hlt : k < n
    · have hd2 := HD.out.kept hKk.out (fun k hk h => (HF0.out k hk).1 (.inr h))
      have he2 := hKk.out.blk HE.out (fun h => (HF0.out e0 h).1 (.inl rfl))
      rcases hd2 with ⟨rfl, _⟩ | ⟨h1, h2, h3, h4, b, g, cap, C, e, h6, h7, h8, h9⟩
      · omega
      cases e
      have c0 : wr.cell? ⟨e0, 0, none⟩ = some (.pointer (some ⟨b, 0, none⟩)) := he2.cell 0
      have c1 : wr.cell? ⟨b, 0, none⟩ = some (.slice (some ⟨g, 0, none⟩) n cap) := h6.cell 0
      have hsrc := blk_src h7 h3 h4 hlt
      have HC := hide (bclone_at wr _ _ hsrc (by rw [getB_len h3 hlt]; decide))
      have hltI : (k : Int) < n := by omega
      clear h1 h2 h3 h4 h6 h7 h8 h9 hsrc he2
      gi_wp2_with (with_reducible refine stopi_slice1 119 ?_)
      refine hide ?_
      refine wpListIn_run rfl rfl (fun _ => by simp) (run_slice_arr rfl) ?_
      rw [Nat.mul_comm k 64]
      try simp only [put_lit, put_none, List.set_cons_succ, List.set_cons_zero]
      gi_wp2_with (with_reducible refine stopi_callF1 67 ?_)
      refine hide ?_
      refine ai_call1 (gf := 67) rfl rfl rfl (enters_of Try.func67 (by kernel_rfl) rfl) HC.out ?_
      rintro e w1 ⟨s, rfl, ho, hk1⟩
      refine ⟨_, rfl, ?_⟩
      have hsz := hKk.out.size
      have hsz1 := hk1.size
      have hJ1 := (HJ.out _).none hJk.out hk1
      have hFl : ∀ j, F j → j < wr.heap.size := (HJ.out _).lt _ _ hJk.out
      have hrg : List.range n = List.range k ++ k :: (List.range n).drop (k + 1) := by
        have h1 : k < (List.range n).length := by simpa using hlt
        have h2 := List.take_append_drop k (List.range n)
        rw [List.drop_eq_getElem_cons h1, List.getElem_range, List.take_range, Nat.min_eq_left (by omega)] at h2
        exact h2.symm
      have hyc := HT.out (List.range k) k _ F (fun j => s.v.ownBlock = some j) #[.int .i64 k, .slice s.a s.n s.c] w1 hrg hJ1 (by omega) hFk.out ⟨s, rfl, ho.1, fun _ => Iff.rfl⟩ (fun j hj => ⟨fun h => by have := hFl j h; have := ho.2 j hj; omega, by have := ho.2 j hj; omega, ho.1.lt j hj⟩)
      have Hyc := hide hyc
      have Hk1 := hide hk1
      have Hfresh := hide ho.2
      clear hyc hk1 hJ1 c0 c1 ho hFl hrg
      try simp only [put_lit, put_none, List.set_cons_succ, List.set_cons_zero]
      gi_wp2_with (with_reducible refine stopi_val1 ?_)
      refine hide ?_
      try simp only [put_lit, put_none, List.set_cons_succ, List.set_cons_zero]
      refine ai_yc (yv := tv) (vy := .int .i64 k) (vz := .slice s.a s.n s.c) rfl rfl rfl Hyc.out ?_
      rintro e w2 ⟨F', hcase, hk2, hF'⟩
      rw [← List.range_succ] at hcase
      have HK2 : Hid (Kept F0 W w2) := hide ((hKk.out.trans Hk1.out (fun _ _ h => h.elim)).trans hk2 (fun j hj h => by
        rcases h with h | h
        · exact (hFk.out j h).elim (fun h => h) (fun h => by omega)
        · have := Hfresh.out j h; omega))
      have HF2 : Hid (∀ k, F' k → F0 k ∨ W.heap.size ≤ k) := hide (fun j h => by
        rcases hF' j h with h | h | h
        · exact hFk.out j h
        · have := Hfresh.out j h; exact .inr (by omega)
        · exact .inr (by omega))
      rcases hcase with ⟨rfl, hJ4⟩ | ⟨rfl, hJ4⟩
      · have HJ4 := hide hJ4
        clear hJ4 hk2 hF' Hk1
        refine ⟨_, rfl, ?_⟩
        try simp only [put_lit, List.set_cons_succ, List.set_cons_zero]
        gi_wp2
        go_roundw
        case rel => exact ⟨k + 1, F', by simp, by omega, HJ4, HF2, HK2⟩
        case measure => simp [intOf]; omega
      · have HJ4 := hide hJ4
        have Hpre : Hid (∃ post, List.range n = List.range (k + 1) ++ post) := hide ⟨(List.range n).drop (k + 1), by
          have h2 := List.take_append_drop (k + 1) (List.range n)
          rw [List.take_range, Nat.min_eq_left (by omega)] at h2
          exact h2.symm⟩
        clear hJ4 hk2 hF' Hk1
        refine ⟨_, rfl, ?_⟩
        try simp only [put_lit, List.set_cons_succ, List.set_cons_zero]
        gi_wp2
        refine bodyPost_ret (results_none rfl _ _ _) rfl ?_
        exact ⟨⟨_, rfl⟩, false, HK2.out.mono (fun _ _ h => .inl h), .inr ⟨rfl, _, F', Hpre.out, HJ4.out, HF2.out, trivial⟩⟩
    · obtain rfl : k = n := by omega
      gi_wp2
      go_end0
      exact ⟨⟨_, rfl⟩, true, hKk.out.mono (fun _ _ h => .inl h), .inl ⟨rfl, F, hJk.out, hFk.out, trivial⟩⟩
/-- The sequence of a disk's blocks. -/
theorem all1_ok {d : Value} {n e0 : Nat} {B : List Nat} {X : NSet} {W : World} (hd : DkL W d n B X) (he : Blk W e0 [d] 44) :
    SeqOk2 Try.prog (.func (.func 65) #[] #[.pointer (some ⟨e0, 0, none⟩)]) (EK B) (List.range n) (fun k => k = e0 ∨ X k) (fun _ => False) (fun _ _ _ => True) W := by
  refine ⟨.inl ⟨_, _, rfl⟩, ?_, fun _ _ h => h, EK.ok _ _, fun _ _ _ _ _ _ _ _ => trivial, ?_⟩
  · rintro k ((h | h) | h)
    · rw [h]; exact he.lt
    · exact hd.lt k h
    · exact h.elim
  · intro _ W' S hk hS
    exact all1_at (hd.kept hk (fun k h hx => (hS k h).1 (.inr hx))) (hk.blk he (fun h => (hS _ h).1 (.inl rfl)))
theorem all_at (w : World) (d : Value) (n : Nat) (B : List Nat) (h : DkAt w d n B) : Calls Try.prog 44 #[d] w fun e w' => ∃ e0, e = .returned (.func (.func 65) #[] #[.pointer (some ⟨e0, 0, none⟩)]) ∧ Blk w' e0 [d] 44 ∧ w.heap.size ≤ e0 ∧ Kept (fun _ => False) w w' := by
  obtain ⟨a, rfl, _⟩ := h.ptr
  clear h
  go_enter Try.func44, Try.ntmps44
  go_wp2_with ((with_reducible refine aw_box (t := 44) (v := .pointer a) rfl ?_); intro w1 hb1 hk1 hz1; have Hb1 := hide hb1; have Hk1 := hide hk1; clear hb1 hk1 hz1)
  go_ret
  exact ⟨_, rfl, Hb1.out, Nat.le_refl _, Hk1.out⟩
end Go.Proofs.Ytnlcmgdeohbmoaa
