/-
  Diff, Same, of package image.
-/
import Derived.Test.YtnlcmgdeohbmoaaJ15
import Derived.Test.YtnlcmgdeohbmoaaJ07
namespace Go.Proofs.Ytnlcmgdeohbmoaa
open Go.RowKit Go.Shelf
set_option linter.unusedSimpArgs false
set_option linter.unusedVariables false
set_option maxRecDepth 100000

end Go.Proofs.Ytnlcmgdeohbmoaa

/-
  A range over a sequence of Fl's kind: the taker is the loop's round. Nothing of a program's dump is used here.
-/
namespace Go.Proofs.Ytnlcmgdeohbmoaa
open Go.RowKit Go.Shelf
set_option linter.unusedSimpArgs false
set_option linter.unusedVariables false
set_option maxRecDepth 100000

section
variable {P : Program} {α : Type} {g : Operand} {ps : Array Tmp} {assign body : Code} {Q : Exit → Act → World → Prop} {a : Act} {w : World}
/-- How a body may be left. -/
def bodyFS (I Ix : List α → NSet → World → Prop) (pre : List α) (F G : NSet) (W : World) : Exit → Act → World → Prop
  | .normal, _, W' => ∃ F', I pre F' W' ∧ Kept (fun k => F k ∨ G k) W W' ∧ ∀ k, F' k → F k ∨ G k ∨ W.heap.size ≤ k
  | .ret, _, W' => ∃ F', Ix pre F' W' ∧ Kept (fun k => F k ∨ G k) W W' ∧ ∀ k, F' k → F k ∨ G k ∨ W.heap.size ≤ k
  | _, _, _ => False

theorem rangeFS {gf : Nat} {lb : Array Value} (hg : a.eval g = .func (.func gf) #[] lb) {E : EncR α} {xs : List α} {X C : NSet} {Post : Bool → List α → World → Prop} (hs : SeqOk P (.func (.func gf) #[] lb) E xs X C Post w) (hps : ps.size = 1)
    (I Ix : List α → NSet → World → Prop) (hI : ∀ pre, Stab w.heap.size C (I pre)) (hIx : ∀ pre, Stab w.heap.size C (Ix pre)) (F0 : NSet) (hF0 : ∀ k, F0 k → ¬ X k ∧ ¬ C k) (h0 : I [] F0 w)
    (Ax : α → Value → Act → World → Prop) (hAx : ∀ x v a', OwnFrom w.heap.size (fun (_ : Unit) W => Ax x v a' W))
    (hassign : ∀ (l n : Nat) (pre : List α) (x : α) (v : Value) (F G : NSet) (W : World) (K : Act → World → Prop), I pre F W → E x v G W → (∀ a' W', Kept (fun _ => False) W W' → Ax x v a' W' → K a' W') →
      assign.wpIn (Fence.wide.inRound l) n P (Exit.then K (fun _ _ _ => False)) { tmps := (ps.zip #[v]).foldl (fun t (p, v) => t.setIfInBounds p v) a.tmps, defers := [] } W)
    (hbody : ∀ (l n : Nat) (pre : List α) (x : α) (post : List α) (v : Value) (F G : NSet) (a' : Act) (W : World), xs = pre ++ x :: post → I pre F W → w.heap.size ≤ W.heap.size → (∀ k, F k → F0 k ∨ w.heap.size ≤ k) → E x v G W → (∀ k, G k → ¬ F k ∧ w.heap.size ≤ k ∧ k < W.heap.size) → Ax x v a' W → body.wpIn (Fence.wide.inRound l) n P (bodyFS I Ix (pre ++ [x]) F G W) a' W)
    (hdone : ∀ (D : Nat) (F : NSet) (W : World), w.heap.size ≤ D → I xs F W → (∀ k, F k → F0 k ∨ w.heap.size ≤ k) → ¬ F D → Kept (fun k => F0 k ∨ C k) w W → Post true xs W → W.heap[D]? = some (.deferred (some [])) → Q .normal { a with defers := { target := .collected D, args := #[] } :: a.defers } W)
    (hstop : ∀ (D : Nat) (pre : List α) (F : NSet) (W : World), w.heap.size ≤ D → (∃ post, xs = pre ++ post) → Ix pre F W → (∀ k, F k → F0 k ∨ w.heap.size ≤ k) → ¬ F D → Kept (fun k => F0 k ∨ C k) w W → Post false pre W → W.heap[D]? = some (.deferred (some [])) → Code.ret.wp P Q { a with defers := { target := .collected D, args := #[] } :: a.defers } W) :
    (Code.rangeFunc g ps assign body).wp P Q a w := by
  refine (wpIn_wide (n := 2)).1 (wpIn_rangeFunc ?_)
  intro fn _
  obtain ⟨D, hD⟩ : ∃ D, D = w.heap.size := ⟨_, rfl⟩
  obtain ⟨rec, hrec⟩ : ∃ rec : LoopState → Option Code → Loop, rec = fun st pe => { state := st, pending := pe, fn, tmps := a.tmps, params := ps, assign, body, defers := D } := ⟨_, rfl⟩
  obtain ⟨W1, hW1⟩ : ∃ W1, W1 = (w.alloc (.deferred (some []))).alloc (.loop (rec .ready none)) := ⟨_, rfl⟩
  have hk1 : Kept (fun _ => False) w W1 := by rw [hW1]; exact (Kept.alloc _ w _).trans (Kept.alloc (fun _ => False) _ _) (fun _ _ h => h)
  have hs1 : W1.heap.size = D + 2 := by rw [hW1, hD]; simp
  have hL1 : W1.heap[D + 1]? = some (.loop (rec .ready none)) := by
    have h := World.alloc_heap_new (w.alloc (.deferred (some []))) (.loop (rec .ready none))
    rw [World.size_alloc, ← hD] at h
    rw [hW1]
    exact h
  have hK1 : W1.heap[D]? = some (.deferred (some [])) := by
    rw [hW1, hD]
    exact (Below.heap_alloc _ _ _ (by simp)).trans (World.alloc_heap_new w _)
  have hXC : ∀ k, X k ∨ C k → k < D := fun k h => by rw [hD]; exact hs.lt k h
  have hF0l : ∀ k, F0 k → k < D := fun k h => by rw [hD]; exact (hI []).lt _ _ h0 k h
  have hyc : YC P (.func (.func gf) #[] lb) #[.func (.yield (D + 1)) #[] #[]] W1 _ := hs.run ⟨_, _, rfl⟩ W1 _ hk1 (fun _ h => h.elim) (.func (.yield (D + 1)) #[] #[])
    (fun pre F W => ∃ Fi, F = (fun k => Fi k ∨ k = D + 1) ∧ I pre Fi W ∧ ¬ Fi (D + 1) ∧ ¬ Fi D ∧ W.heap[D + 1]? = some (.loop (rec .ready none)) ∧ W.heap[D]? = some (.deferred (some [])))
    (fun pre F W => ∃ Fi, F = (fun k => Fi k ∨ k = D + 1) ∧ Ix pre Fi W ∧ ¬ Fi (D + 1) ∧ ¬ Fi D ∧ W.heap[D + 1]? = some (.loop (rec .done (some .ret))) ∧ W.heap[D]? = some (.deferred (some [])))
    (fun k => F0 k ∨ k = D + 1) ⟨_, _, rfl⟩ ?stabJ ?stabX ?apart ?takes ⟨F0, rfl, (hI []).none h0 hk1, fun h => by have := hF0l _ h; omega, fun h => by have := hF0l _ h; omega, hL1, hK1⟩
  case stabJ =>
    intro pre
    refine ⟨?_, ?_⟩
    · rintro F W ⟨Fi, rfl, hi, hn1, hn2, hl, hd⟩ k (h | h)
      · exact (hI pre).lt _ _ hi k h
      · rw [h]; exact (Array.getElem?_eq_some_iff.1 hl).1
    · rintro F W W' S ⟨Fi, rfl, hi, hn1, hn2, hl, hd⟩ hk h1 h2
      refine ⟨Fi, rfl, (hI pre).kept _ _ _ _ hi hk (fun k hs hf => h1 k hs (.inl hf)) (fun k hs hl => h2 k hs (by omega)), hn1, hn2, ?_, ?_⟩
      · exact (hk.block _ (Array.getElem?_eq_some_iff.1 hl).1 (fun h => h1 _ h (.inr rfl))).trans hl
      · exact (hk.block _ (Array.getElem?_eq_some_iff.1 hd).1 (fun h => by have := hXC _ (.inr (h2 D h (by omega))); omega)).trans hd
  case stabX =>
    intro pre
    refine ⟨?_, ?_⟩
    · rintro F W ⟨Fi, rfl, hi, hn1, hn2, hl, hd⟩ k (h | h)
      · exact (hIx pre).lt _ _ hi k h
      · rw [h]; exact (Array.getElem?_eq_some_iff.1 hl).1
    · rintro F W W' S ⟨Fi, rfl, hi, hn1, hn2, hl, hd⟩ hk h1 h2
      refine ⟨Fi, rfl, (hIx pre).kept _ _ _ _ hi hk (fun k hs hf => h1 k hs (.inl hf)) (fun k hs hl => h2 k hs (by omega)), hn1, hn2, ?_, ?_⟩
      · exact (hk.block _ (Array.getElem?_eq_some_iff.1 hl).1 (fun h => h1 _ h (.inr rfl))).trans hl
      · exact (hk.block _ (Array.getElem?_eq_some_iff.1 hd).1 (fun h => by have := hXC _ (.inr (h2 D h (by omega))); omega)).trans hd
  case apart =>
    rintro k (h | h)
    · exact hF0 k h
    · exact ⟨fun hx => by have := hXC k (.inl hx); omega, fun hx => by have := hXC k (.inr hx); omega⟩
  case takes =>
    rintro pre x post F G v W hxs ⟨Fi, rfl, hi, hn1, hn2, hl, hd⟩ hBW hF hE hG
    refine .inr ⟨D + 1, rfl, fun n => ?_⟩
    have hy := run_yield (P := P) (args := #[v]) hl (by rw [hrec]; exact hps.symm)
    rw [hrec] at hy
    have hGl : ¬ G (D + 1) := fun h => by have := (hG _ h).2; omega
    have hGd : ¬ G D := fun h => by have := (hG _ h).2; omega
    refine ⟨fn, _, assign, body, hy, roundIn_of_wpIn trivial (hassign _ _ pre x v Fi G W _ hi hE ?_)⟩
    intro a' W2 hk2 hax
    have hl2 : W2.heap[D + 1]? = some (.loop (rec .ready none)) := (hk2.block _ (Array.getElem?_eq_some_iff.1 hl).1 (fun h => h)).trans hl
    have hd2 : W2.heap[D]? = some (.deferred (some [])) := (hk2.block _ (Array.getElem?_eq_some_iff.1 hd).1 (fun h => h)).trans hd
    refine ⟨_, run_beginRound hl2 (by rw [hrec]), ?_⟩
    obtain ⟨W3, hW3⟩ : ∃ W3, W3 = W2.putObj (D + 1) (.loop { rec .ready none with state := .busy }) := ⟨_, rfl⟩
    have hk3 : Kept (fun k => k = D + 1) W2 W3 := by rw [hW3]; exact Kept.putObj _ _ _
    have hl3 : W3.heap[D + 1]? = some (.loop { rec .ready none with state := .busy }) := by rw [hW3]; exact World.putObj_heap_same (Array.getElem?_eq_some_iff.1 hl2).1
    have hd3 : W3.heap[D]? = some (.deferred (some [])) := (hk3.block _ (Array.getElem?_eq_some_iff.1 hd2).1 (by omega)).trans hd2
    have hi3 : I pre Fi W3 := (hI pre).kept _ _ _ _ ((hI pre).none hi hk2) hk3 (fun k h1 h2 => hn1 (h1 ▸ h2)) (fun k h1 h2 => by omega)
    have hax3 : Ax x v a' W3 := by rw [hW3]; exact ownU_put (hAx x v a') _ hax (by omega) hl2 rfl
    have hE3 : E x v G W3 := hs.enc _ _ _ _ _ _ (hs.enc _ _ _ _ _ _ hE hk2 (fun _ h => h.elim)) hk3 (fun k h => ⟨fun h' => hGl (h ▸ h'), fun h' => by have := hXC k (.inl h'); omega⟩)
    rw [← hW3]
    have hk13 : Kept (fun k => (Fi k ∨ k = D + 1) ∨ G k) W W3 := (hk2.mono (T := fun k => (Fi k ∨ k = D + 1) ∨ G k) (fun _ _ h => h.elim)).trans hk3 (fun _ _ h => .inl (.inr h))
    have hs13 := hk13.size
    refine wpIn_mono (hbody _ _ pre x post v Fi G a' W3 hxs hi3 (by omega) (fun k hk => by
      rcases hF k (.inl hk) with (h | h) | h
      · exact .inl h
      · exact .inr (by omega)
      · exact .inr (by omega)) hE3 (fun k hk => ⟨fun h => (hG k hk).1 (.inl h), by have := (hG k hk).2; omega, by have := (hG k hk).2; omega⟩) hax3) ?_
    have hszW : D + 1 < W.heap.size := (Array.getElem?_eq_some_iff.1 hl).1
    rintro e a3 W4 hp
    cases e with
    | normal =>
      obtain ⟨F', hi4, hk4, hF'⟩ := hp
      have hn' : ∀ j, j < W.heap.size → ¬ Fi j → ¬ G j → ¬ F' j := fun j hj h1 h2 h3 => by
        rcases hF' j h3 with h | h | h
        · exact h1 h
        · exact h2 h
        · omega
      have hl4 : W4.heap[D + 1]? = some (.loop { rec .ready none with state := .busy }) := (hk4.block _ (Array.getElem?_eq_some_iff.1 hl3).1 (fun h => h.elim hn1 hGl)).trans hl3
      have hd4 : W4.heap[D]? = some (.deferred (some [])) := (hk4.block _ (Array.getElem?_eq_some_iff.1 hd3).1 (fun h => h.elim hn2 hGd)).trans hd3
      have hnl := hn' (D + 1) hszW hn1 hGl
      have hnd := hn' D (by omega) hn2 hGd
      refine ⟨_, _, run_endRound (P := P) none hl4, fun k => F' k ∨ k = D + 1, .inl ⟨rfl, F', rfl, (hI _).kept _ _ _ _ hi4 (Kept.putObj _ _ _) (fun k h1 h2 => hnl (h1 ▸ h2)) (fun k h1 h2 => by omega), hnl, hnd, ?_, ?_⟩, ?_, ?_⟩
      · rw [World.putObj_heap_same (Array.getElem?_eq_some_iff.1 hl4).1, hrec]
        rfl
      · exact (World.putObj_heap_other (by omega)).trans hd4
      · exact (hk13.trans hk4 (fun _ _ h => h.elim (fun h => .inl (.inl h)) .inr)).trans (Kept.putObj _ _ _) (fun _ _ h => .inl (.inr h))
      · rintro k (h | h)
        · rcases hF' k h with h | h | h
          · exact .inl (.inl h)
          · exact .inr (.inl h)
          · exact .inr (.inr (by omega))
        · exact .inl (.inr h)
    | ret =>
      obtain ⟨F', hi4, hk4, hF'⟩ := hp
      have hn' : ∀ j, j < W.heap.size → ¬ Fi j → ¬ G j → ¬ F' j := fun j hj h1 h2 h3 => by
        rcases hF' j h3 with h | h | h
        · exact h1 h
        · exact h2 h
        · omega
      have hl4 : W4.heap[D + 1]? = some (.loop { rec .ready none with state := .busy }) := (hk4.block _ (Array.getElem?_eq_some_iff.1 hl3).1 (fun h => h.elim hn1 hGl)).trans hl3
      have hd4 : W4.heap[D]? = some (.deferred (some [])) := (hk4.block _ (Array.getElem?_eq_some_iff.1 hd3).1 (fun h => h.elim hn2 hGd)).trans hd3
      have hnl := hn' (D + 1) hszW hn1 hGl
      have hnd := hn' D (by omega) hn2 hGd
      refine ⟨_, _, run_endRound (P := P) (some .ret) hl4, fun k => F' k ∨ k = D + 1, .inr ⟨rfl, F', rfl, (hIx _).kept _ _ _ _ hi4 (Kept.putObj _ _ _) (fun k h1 h2 => hnl (h1 ▸ h2)) (fun k h1 h2 => by omega), hnl, hnd, ?_, ?_⟩, ?_, ?_⟩
      · rw [World.putObj_heap_same (Array.getElem?_eq_some_iff.1 hl4).1, hrec]
        rfl
      · exact (World.putObj_heap_other (by omega)).trans hd4
      · exact (hk13.trans hk4 (fun _ _ h => h.elim (fun h => .inl (.inl h)) .inr)).trans (Kept.putObj _ _ _) (fun _ _ h => .inl (.inr h))
      · rintro k (h | h)
        · rcases hF' k h with h | h | h
          · exact .inl (.inl h)
          · exact .inr (.inl h)
          · exact .inr (.inr (by omega))
        · exact .inl (.inr h)
    | exit id => exact hp.elim
    | goto t => exact hp.elim
    | panic c => exact hp.elim
    | outgrown => exact hp.elim
  rcases hyc with ⟨gf', lb', he, eg, hc⟩ | ⟨l', he, _⟩
  case inr => cases he
  cases he
  refine ⟨D + 1, [{ target := .collected D, args := #[] }], W1, { target := .fn (.func gf) lb, args := #[.func (.yield (D + 1)) #[] #[]] }, W1, gf, #[.func (.yield (D + 1)) #[] #[]] ++ lb, W1, ?_, ?_, fun _ _ => trivial, ?_, (fun h => by cases h), ?_⟩
  · rw [hW1, hrec, hD]
    exact run_enterLoop_outer _ _ _ _ _
  · simp only [resolve, hg]
    simp [go_sem]
  · simp [invoke, go_sem, eg]
  refine callsIn_wide.2 (hc.mono ?_)
  rintro e W2 ⟨⟨v, rfl⟩, b, hkW, hcase⟩
  have hkw2 : Kept (fun k => F0 k ∨ C k) w W2 := (hk1.mono (T := fun k => F0 k ∨ C k) (fun _ _ h => h.elim)).trans hkW (fun k hk h => by
    rcases h with (h | h) | h
    · exact .inl h
    · omega
    · exact .inr h)
  have hput : ∀ o, Kept (fun k => F0 k ∨ C k) w (W2.putObj (D + 1) o) := fun o => hkw2.trans (Kept.putObj _ _ _) (fun k hk h => by omega)
  have hpost : ∀ b pre o, Post b pre W2 → Post b pre (W2.putObj (D + 1) o) := fun b pre o h => hs.post _ _ _ _ _ h (Kept.putObj _ _ _) (fun k h1 h2 => by have := hXC k (.inr h2); omega)
  have hFo : ∀ Fi : NSet, (∀ k, (Fi k ∨ k = D + 1) → (F0 k ∨ k = D + 1) ∨ W1.heap.size ≤ k) → ∀ k, Fi k → F0 k ∨ w.heap.size ≤ k := fun Fi h k hk => by
    rcases h k (.inl hk) with (h | h) | h
    · exact .inl h
    · exact .inr (by omega)
    · exact .inr (by omega)
  rcases hcase with ⟨rfl, F', ⟨Fi, rfl, hi, hn1, hn2, hl, hd⟩, hF', hP⟩ | ⟨rfl, pre, F', hpre, ⟨Fi, rfl, hi, hn1, hn2, hl, hd⟩, hF', hP⟩
  · have h := run_endLoop (P := P) hl (by rw [hrec]; simp)
    have hp : (rec .ready none).pending = none := by rw [hrec]
    rw [hp] at h
    exact ⟨none, _, h, hdone D Fi _ (by omega) ((hI _).kept _ _ _ _ hi (Kept.putObj _ _ _) (fun k h1 h2 => hn1 (h1 ▸ h2)) (fun k h1 h2 => by omega)) (hFo Fi hF') hn2 (hput _) (hpost _ _ _ hP) ((World.putObj_heap_other (by omega)).trans hd)⟩
  · have h := run_endLoop (P := P) hl (by rw [hrec]; simp)
    have hp : (rec .done (some .ret)).pending = some .ret := by rw [hrec]
    rw [hp] at h
    exact ⟨some .ret, _, h, wpIn_wide.2 (hstop D pre Fi _ (by omega) hpre ((hIx _).kept _ _ _ _ hi (Kept.putObj _ _ _) (fun k h1 h2 => hn1 (h1 ▸ h2)) (fun k h1 h2 => by omega)) (hFo Fi hF') hn2 (hput _) (hpost _ _ _ hP) ((World.putObj_heap_other (by omega)).trans hd))⟩
end
end Go.Proofs.Ytnlcmgdeohbmoaa
