/-
  A range over a sequence of Fl's kind: the taker is the loop's round. Nothing of a program's dump is used here.
-/
import Derived.Test.YtbbhchmdggfncaaJ05
import Derived.Test.YtbbhchmdggfncaaJ08
import Derived.DefersIn
import Derived.RecoverIn
import Derived.TacticsInMore
namespace Go.Proofs.Ytbbhchmdggfncaa
open Go.RowKit Go.Shelf
set_option linter.unusedSimpArgs false
set_option linter.unusedVariables false
set_option maxRecDepth 100000

section
variable {P : Program} {α : Type} {g : Operand} {ps : Array Tmp} {assign body : Code} {Q : Exit → Act → World → Prop} {a : Act} {w : World}
/-- How a body may be left. -/
def bodyFS (I Ix : List α → NSet → World → Prop) (pre : List α) (F G : NSet) (W : World) : Exit → Act → World → Prop
  | .normal, _, W' => ∃ F', I pre F' W' ∧ Kept (fun k => F k ∨ G k) W W' ∧ ∀ k, F' k → F k ∨ G k ∨ W.heap.size ≤ k
  | .ret, _, W' => ∃ F', Ix pre F' W' ∧ Kept (fun k => F k ∨ G k) W W' ∧ ∀ k, F' k → F k ∨ G k ∨ W.heap.size ≤ k
  | _, _, _ => False

theorem rangeFS {gf : Nat} {lb : Array Value} (hg : a.eval g = .func (.func gf) #[] lb) {E : EncR α} {xs : List α} {X C : NSet} {Post : Bool → List α → World → Prop} (hs : SeqOk P (.func (.func gf) #[] lb) E xs X C Post w) (hps : ps.size = 1)
    (I Ix : List α → NSet → World → Prop) (hI : ∀ pre, Stab w.heap.size C (I pre)) (hIx : ∀ pre, Stab w.heap.size C (Ix pre)) (F0 : NSet) (hF0 : ∀ k, F0 k → ¬ X k ∧ ¬ C k) (h0 : I [] F0 w)
    (Ax : α → Value → Act → World → Prop) (hAx : ∀ x v a', OwnFrom w.heap.size (fun (_ : Unit) W => Ax x v a' W))
    (hassign : ∀ (l n : Nat) (pre : List α) (x : α) (v : Value) (F G : NSet) (W : World) (K : Act → World → Prop), I pre F W → E x v G W → (∀ a' W', Kept (fun _ => False) W W' → Ax x v a' W' → K a' W') →
      assign.wpIn (Fence.wide.inRound l) n P (Exit.then K (fun _ _ _ => False)) { tmps := (ps.zip #[v]).foldl (fun t (p, v) => t.setIfInBounds p v) a.tmps, defers := [] } W)
    (hbody : ∀ (l n : Nat) (pre : List α) (x : α) (post : List α) (v : Value) (F G : NSet) (a' : Act) (W : World), xs = pre ++ x :: post → I pre F W → w.heap.size ≤ W.heap.size → (∀ k, F k → F0 k ∨ w.heap.size ≤ k) → E x v G W → (∀ k, G k → ¬ F k ∧ w.heap.size ≤ k ∧ k < W.heap.size) → Ax x v a' W → body.wpIn (Fence.wide.inRound l) n P (bodyFS I Ix (pre ++ [x]) F G W) a' W)
    (hdone : ∀ (D : Nat) (F : NSet) (W : World), w.heap.size ≤ D → I xs F W → (∀ k, F k → F0 k ∨ w.heap.size ≤ k) → ¬ F D → Kept (fun k => F0 k ∨ C k) w W → Post true xs W → W.heap[D]? = some (.deferred (some [])) → Q .normal { a with defers := { target := .collected D, args := #[] } :: a.defers } W)
    (hstop : ∀ (D : Nat) (pre : List α) (F : NSet) (W : World), w.heap.size ≤ D → (∃ post, xs = pre ++ post) → Ix pre F W → (∀ k, F k → F0 k ∨ w.heap.size ≤ k) → ¬ F D → Kept (fun k => F0 k ∨ C k) w W → Post false pre W → W.heap[D]? = some (.deferred (some [])) → Code.ret.wp P Q { a with defers := { target := .collected D, args := #[] } :: a.defers } W) :
    (Code.rangeFunc g ps assign body).wp P Q a w := by
  refine (wpIn_wide (n := 2)).1 (wpIn_rangeFunc ?_)
  intro fn _
  obtain ⟨D, hD⟩ : ∃ D, D = w.heap.size := ⟨_, rfl⟩
  obtain ⟨rec, hrec⟩ : ∃ rec : LoopState → Option Code → Loop, rec = fun st pe => { state := st, pending := pe, fn, tmps := a.tmps, params := ps, assign, body, defers := D } := ⟨_, rfl⟩
  obtain ⟨W1, hW1⟩ : ∃ W1, W1 = (w.alloc (.deferred (some []))).alloc (.loop (rec .ready none)) := ⟨_, rfl⟩
  have hk1 : Kept (fun _ => False) w W1 := by rw [hW1]; exact (Kept.alloc _ w _).trans (Kept.alloc (fun _ => False) _ _) (fun _ _ h => h)
  have hs1 : W1.heap.size = D + 2 := by rw [hW1, hD]; simp
  have hL1 : W1.heap[D + 1]? = some (.loop (rec .ready none)) := by
    have h := World.alloc_heap_new (w.alloc (.deferred (some []))) (.loop (rec .ready none))
    rw [World.size_alloc, ← hD] at h
    rw [hW1]
    exact h
  have hK1 : W1.heap[D]? = some (.deferred (some [])) := by
    rw [hW1, hD]
    exact (Below.heap_alloc _ _ _ (by simp)).trans (World.alloc_heap_new w _)
  have hXC : ∀ k, X k ∨ C k → k < D := fun k h => by rw [hD]; exact hs.lt k h
  have hF0l : ∀ k, F0 k → k < D := fun k h => by rw [hD]; exact (hI []).lt _ _ h0 k h
  have hyc : YC P (.func (.func gf) #[] lb) #[.func (.yield (D + 1)) #[] #[]] W1 _ := hs.run ⟨_, _, rfl⟩ W1 _ hk1 (fun _ h => h.elim) (.func (.yield (D + 1)) #[] #[])
    (fun pre F W => ∃ Fi, F = (fun k => Fi k ∨ k = D + 1) ∧ I pre Fi W ∧ ¬ Fi (D + 1) ∧ ¬ Fi D ∧ W.heap[D + 1]? = some (.loop (rec .ready none)) ∧ W.heap[D]? = some (.deferred (some [])))
    (fun pre F W => ∃ Fi, F = (fun k => Fi k ∨ k = D + 1) ∧ Ix pre Fi W ∧ ¬ Fi (D + 1) ∧ ¬ Fi D ∧ W.heap[D + 1]? = some (.loop (rec .done (some .ret))) ∧ W.heap[D]? = some (.deferred (some [])))
    (fun k => F0 k ∨ k = D + 1) ⟨_, _, rfl⟩ ?stabJ ?stabX ?apart ?takes ⟨F0, rfl, (hI []).none h0 hk1, fun h => by have := hF0l _ h; omega, fun h => by have := hF0l _ h; omega, hL1, hK1⟩
  case stabJ =>
    intro pre
    refine ⟨?_, ?_⟩
    · rintro F W ⟨Fi, rfl, hi, hn1, hn2, hl, hd⟩ k (h | h)
      · exact (hI pre).lt _ _ hi k h
      · rw [h]; exact (Array.getElem?_eq_some_iff.1 hl).1
    · rintro F W W' S ⟨Fi, rfl, hi, hn1, hn2, hl, hd⟩ hk h1 h2
      refine ⟨Fi, rfl, (hI pre).kept _ _ _ _ hi hk (fun k hs hf => h1 k hs (.inl hf)) (fun k hs hl => h2 k hs (by omega)), hn1, hn2, ?_, ?_⟩
      · exact (hk.block _ (Array.getElem?_eq_some_iff.1 hl).1 (fun h => h1 _ h (.inr rfl))).trans hl
      · exact (hk.block _ (Array.getElem?_eq_some_iff.1 hd).1 (fun h => by have := hXC _ (.inr (h2 D h (by omega))); omega)).trans hd
  case stabX =>
    intro pre
    refine ⟨?_, ?_⟩
    · rintro F W ⟨Fi, rfl, hi, hn1, hn2, hl, hd⟩ k (h | h)
      · exact (hIx pre).lt _ _ hi k h
      · rw [h]; exact (Array.getElem?_eq_some_iff.1 hl).1
    · rintro F W W' S ⟨Fi, rfl, hi, hn1, hn2, hl, hd⟩ hk h1 h2
      refine ⟨Fi, rfl, (hIx pre).kept _ _ _ _ hi hk (fun k hs hf => h1 k hs (.inl hf)) (fun k hs hl => h2 k hs (by omega)), hn1, hn2, ?_, ?_⟩
      · exact (hk.block _ (Array.getElem?_eq_some_iff.1 hl).1 (fun h => h1 _ h (.inr rfl))).trans hl
      · exact (hk.block _ (Array.getElem?_eq_some_iff.1 hd).1 (fun h => by have := hXC _ (.inr (h2 D h (by omega))); omega)).trans hd
  case apart =>
    rintro k (h | h)
    · exact hF0 k h
    · exact ⟨fun hx => by have := hXC k (.inl hx); omega, fun hx => by have := hXC k (.inr hx); omega⟩
  case takes =>
    rintro pre x post F G v W hxs ⟨Fi, rfl, hi, hn1, hn2, hl, hd⟩ hBW hF hE hG
    refine .inr ⟨D + 1, rfl, fun n => ?_⟩
    have hy := run_yield (P := P) (args := #[v]) hl (by rw [hrec]; exact hps.symm)
    rw [hrec] at hy
    have hGl : ¬ G (D + 1) := fun h => by have := (hG _ h).2; omega
    have hGd : ¬ G D := fun h => by have := (hG _ h).2; omega
    refine ⟨fn, _, assign, body, hy, roundIn_of_wpIn trivial (hassign _ _ pre x v Fi G W _ hi hE ?_)⟩
    intro a' W2 hk2 hax
    have hl2 : W2.heap[D + 1]? = some (.loop (rec .ready none)) := (hk2.block _ (Array.getElem?_eq_some_iff.1 hl).1 (fun h => h)).trans hl
    have hd2 : W2.heap[D]? = some (.deferred (some [])) := (hk2.block _ (Array.getElem?_eq_some_iff.1 hd).1 (fun h => h)).trans hd
    refine ⟨_, run_beginRound hl2 (by rw [hrec]), ?_⟩
    obtain ⟨W3, hW3⟩ : ∃ W3, W3 = W2.putObj (D + 1) (.loop { rec .ready none with state := .busy }) := ⟨_, rfl⟩
    have hk3 : Kept (fun k => k = D + 1) W2 W3 := by rw [hW3]; exact Kept.putObj _ _ _
    have hl3 : W3.heap[D + 1]? = some (.loop { rec .ready none with state := .busy }) := by rw [hW3]; exact World.putObj_heap_same (Array.getElem?_eq_some_iff.1 hl2).1
    have hd3 : W3.heap[D]? = some (.deferred (some [])) := (hk3.block _ (Array.getElem?_eq_some_iff.1 hd2).1 (by omega)).trans hd2
    have hi3 : I pre Fi W3 := (hI pre).kept _ _ _ _ ((hI pre).none hi hk2) hk3 (fun k h1 h2 => hn1 (h1 ▸ h2)) (fun k h1 h2 => by omega)
    have hax3 : Ax x v a' W3 := by rw [hW3]; exact ownU_put (hAx x v a') _ hax (by omega) hl2 rfl
    have hE3 : E x v G W3 := hs.enc _ _ _ _ _ _ (hs.enc _ _ _ _ _ _ hE hk2 (fun _ h => h.elim)) hk3 (fun k h => ⟨fun h' => hGl (h ▸ h'), fun h' => by have := hXC k (.inl h'); omega⟩)
    rw [← hW3]
    have hk13 : Kept (fun k => (Fi k ∨ k = D + 1) ∨ G k) W W3 := (hk2.mono (T := fun k => (Fi k ∨ k = D + 1) ∨ G k) (fun _ _ h => h.elim)).trans hk3 (fun _ _ h => .inl (.inr h))
    have hs13 := hk13.size
    refine wpIn_mono (hbody _ _ pre x post v Fi G a' W3 hxs hi3 (by omega) (fun k hk => by
      rcases hF k (.inl hk) with (h | h) | h
      · exact .inl h
      · exact .inr (by omega)
      · exact .inr (by omega)) hE3 (fun k hk => ⟨fun h => (hG k hk).1 (.inl h), by have := (hG k hk).2; omega, by have := (hG k hk).2; omega⟩) hax3) ?_
    have hszW : D + 1 < W.heap.size := (Array.getElem?_eq_some_iff.1 hl).1
    rintro e a3 W4 hp
    cases e with
    | normal =>
      obtain ⟨F', hi4, hk4, hF'⟩ := hp
      have hn' : ∀ j, j < W.heap.size → ¬ Fi j → ¬ G j → ¬ F' j := fun j hj h1 h2 h3 => by
        rcases hF' j h3 with h | h | h
        · exact h1 h
        · exact h2 h
        · omega
      have hl4 : W4.heap[D + 1]? = some (.loop { rec .ready none with state := .busy }) := (hk4.block _ (Array.getElem?_eq_some_iff.1 hl3).1 (fun h => h.elim hn1 hGl)).trans hl3
      have hd4 : W4.heap[D]? = some (.deferred (some [])) := (hk4.block _ (Array.getElem?_eq_some_iff.1 hd3).1 (fun h => h.elim hn2 hGd)).trans hd3
      have hnl := hn' (D + 1) hszW hn1 hGl
      have hnd := hn' D (by omega) hn2 hGd
      refine ⟨_, _, run_endRound (P := P) none hl4, fun k => F' k ∨ k = D + 1, .inl ⟨rfl, F', rfl, (hI _).kept _ _ _ _ hi4 (Kept.putObj _ _ _) (fun k h1 h2 => hnl (h1 ▸ h2)) (fun k h1 h2 => by omega), hnl, hnd, ?_, ?_⟩, ?_, ?_⟩
      · rw [World.putObj_heap_same (Array.getElem?_eq_some_iff.1 hl4).1, hrec]
        rfl
      · exact (World.putObj_heap_other (by omega)).trans hd4
      · exact (hk13.trans hk4 (fun _ _ h => h.elim (fun h => .inl (.inl h)) .inr)).trans (Kept.putObj _ _ _) (fun _ _ h => .inl (.inr h))
      · rintro k (h | h)
        · rcases hF' k h with h | h | h
          · exact .inl (.inl h)
          · exact .inr (.inl h)
          · exact .inr (.inr (by omega))
        · exact .inl (.inr h)
    | ret =>
      obtain ⟨F', hi4, hk4, hF'⟩ := hp
      have hn' : ∀ j, j < W.heap.size → ¬ Fi j → ¬ G j → ¬ F' j := fun j hj h1 h2 h3 => by
        rcases hF' j h3 with h | h | h
        · exact h1 h
        · exact h2 h
        · omega
      have hl4 : W4.heap[D + 1]? = some (.loop { rec .ready none with state := .busy }) := (hk4.block _ (Array.getElem?_eq_some_iff.1 hl3).1 (fun h => h.elim hn1 hGl)).trans hl3
      have hd4 : W4.heap[D]? = some (.deferred (some [])) := (hk4.block _ (Array.getElem?_eq_some_iff.1 hd3).1 (fun h => h.elim hn2 hGd)).trans hd3
      have hnl := hn' (D + 1) hszW hn1 hGl
      have hnd := hn' D (by omega) hn2 hGd
      refine ⟨_, _, run_endRound (P := P) (some .ret) hl4, fun k => F' k ∨ k = D + 1, .inr ⟨rfl, F', rfl, (hIx _).kept _ _ _ _ hi4 (Kept.putObj _ _ _) (fun k h1 h2 => hnl (h1 ▸ h2)) (fun k h1 h2 => by omega), hnl, hnd, ?_, ?_⟩, ?_, ?_⟩
      · rw [World.putObj_heap_same (Array.getElem?_eq_some_iff.1 hl4).1, hrec]
        rfl
      · exact (World.putObj_heap_other (by omega)).trans hd4
      · exact (hk13.trans hk4 (fun _ _ h => h.elim (fun h => .inl (.inl h)) .inr)).trans (Kept.putObj _ _ _) (fun _ _ h => .inl (.inr h))
      · rintro k (h | h)
        · rcases hF' k h with h | h | h
          · exact .inl (.inl h)
          · exact .inr (.inl h)
          · exact .inr (.inr (by omega))
        · exact .inl (.inr h)
    | exit id => exact hp.elim
    | goto t => exact hp.elim
    | panic c => exact hp.elim
    | outgrown => exact hp.elim
  rcases hyc with ⟨gf', lb', he, eg, hc⟩ | ⟨l', he, _⟩
  case inr => cases he
  cases he
  refine ⟨D + 1, [{ target := .collected D, args := #[] }], W1, { target := .fn (.func gf) lb, args := #[.func (.yield (D + 1)) #[] #[]] }, W1, gf, #[.func (.yield (D + 1)) #[] #[]] ++ lb, W1, ?_, ?_, fun _ _ => trivial, ?_, (fun h => by cases h), ?_⟩
  · rw [hW1, hrec, hD]
    exact run_enterLoop_outer _ _ _ _ _
  · simp only [resolve, hg]
    simp [go_sem]
  · simp [invoke, go_sem, eg]
  refine callsIn_wide.2 (hc.mono ?_)
  rintro e W2 ⟨⟨v, rfl⟩, b, hkW, hcase⟩
  have hkw2 : Kept (fun k => F0 k ∨ C k) w W2 := (hk1.mono (T := fun k => F0 k ∨ C k) (fun _ _ h => h.elim)).trans hkW (fun k hk h => by
    rcases h with (h | h) | h
    · exact .inl h
    · omega
    · exact .inr h)
  have hput : ∀ o, Kept (fun k => F0 k ∨ C k) w (W2.putObj (D + 1) o) := fun o => hkw2.trans (Kept.putObj _ _ _) (fun k hk h => by omega)
  have hpost : ∀ b pre o, Post b pre W2 → Post b pre (W2.putObj (D + 1) o) := fun b pre o h => hs.post _ _ _ _ _ h (Kept.putObj _ _ _) (fun k h1 h2 => by have := hXC k (.inr h2); omega)
  have hFo : ∀ Fi : NSet, (∀ k, (Fi k ∨ k = D + 1) → (F0 k ∨ k = D + 1) ∨ W1.heap.size ≤ k) → ∀ k, Fi k → F0 k ∨ w.heap.size ≤ k := fun Fi h k hk => by
    rcases h k (.inl hk) with (h | h) | h
    · exact .inl h
    · exact .inr (by omega)
    · exact .inr (by omega)
  rcases hcase with ⟨rfl, F', ⟨Fi, rfl, hi, hn1, hn2, hl, hd⟩, hF', hP⟩ | ⟨rfl, pre, F', hpre, ⟨Fi, rfl, hi, hn1, hn2, hl, hd⟩, hF', hP⟩
  · have h := run_endLoop (P := P) hl (by rw [hrec]; simp)
    have hp : (rec .ready none).pending = none := by rw [hrec]
    rw [hp] at h
    exact ⟨none, _, h, hdone D Fi _ (by omega) ((hI _).kept _ _ _ _ hi (Kept.putObj _ _ _) (fun k h1 h2 => hn1 (h1 ▸ h2)) (fun k h1 h2 => by omega)) (hFo Fi hF') hn2 (hput _) (hpost _ _ _ hP) ((World.putObj_heap_other (by omega)).trans hd)⟩
  · have h := run_endLoop (P := P) hl (by rw [hrec]; simp)
    have hp : (rec .done (some .ret)).pending = some .ret := by rw [hrec]
    rw [hp] at h
    exact ⟨some .ret, _, h, wpIn_wide.2 (hstop D pre Fi _ (by omega) hpre ((hIx _).kept _ _ _ _ hi (Kept.putObj _ _ _) (fun k h1 h2 => hn1 (h1 ▸ h2)) (fun k h1 h2 => by omega)) (hFo Fi hF') hn2 (hput _) (hpost _ _ _ hP) ((World.putObj_heap_other (by omega)).trans hd))⟩
end
end Go.Proofs.Ytbbhchmdggfncaa


/-
  tame: a sequence that ends when it is told to, and whose panics end it, made of one that does so anyway.
-/
namespace Go.Proofs.Ytbbhchmdggfncaa
open Go.RowKit Go.Shelf
set_option linter.unusedSimpArgs false
set_option linter.unusedVariables false
set_option maxRecDepth 100000
attribute [local go_sem] Oper.semAt_some

/-- The deferred closure, where nothing panics: 'more' is false. -/
theorem shut_at (n : Nat) (w : World) (bm : Nat) (b : Bool) (hb : Blk w bm [.bool b] 4) :
    CallsDIn Fence.wide n Try.prog 88 #[.pointer (some ⟨bm, 0, none⟩)] .returning w fun e u' w' => e = .returned (.tuple #[]) ∧ u' = .returning ∧ Blk w' bm [.bool false] 4 ∧ Kept (fun k => k = bm) w w' := by
  have hc : w.cell? ⟨bm, 0, none⟩ = some (.bool b) := hb.cell 0
  have hz : w.frozen? ⟨bm, 0, none⟩ = false := hb.frozen 0
  have hn : Blk (w.setCell ⟨bm, 0, none⟩ (.bool false)) bm [.bool false] 4 := hb.setCell 0 _
  have hk : Kept (fun k => k = bm) w (w.setCell ⟨bm, 0, none⟩ (.bool false)) := Kept.setCell _ _ _ rfl
  refine callsDIn_of_wpSIn Try.func88 rfl trivial fun c₀ cs hu => ?_
  apply wpSIn_seq
  apply wpSIn_region
  simp [wpOpsSIn, go_sem, recoverD, hu, Try.ntmps88, Exit.thenS, hc, hz]
  generalize w.setCell ⟨bm, 0, none⟩ (.bool false) = w1 at hn hk ⊢
  apply wpSIn_region
  cases c₀
  simp only at hu
  subst hu
  simp [wpOpsSIn, go_sem, recoverD, Exit.thenS, bodyPostS, results, Try.results50]
  exact ⟨hn, hk⟩

theorem eql62 (ff : Fn) (fl : Array Value) (w : World) : (binOp .eql 107 (.func ff #[] fl) .nilFunc).run Try.prog w = .ok (.bool false) w := by
  have h : ∀ d : Nat, (Op.equalIn (d + 1) 107 (.func ff #[] fl) .nilFunc).run Try.prog w = .ok false w := fun d => by
    simp [Op.equalIn, run_underlying Try.underlying107]
  simp only [binOp]
  simp [Op.equal, Op.maxDepth, h 9999]

def TameJ {α : Type} (b : Bool) (tv : Value) (bm bt : Nat) (I : List α → NSet → World → Prop) (pre : List α) (F : NSet) (W : World) : Prop :=
  (∃ Fi, F = (fun k => Fi k ∨ k = bm) ∧ I pre Fi W ∧ Blk W bm [.bool b] 4 ∧ ¬ Fi bm) ∧ Blk W bt [tv] 115 ∧ ¬ F bt
theorem TameJ.stab {α : Type} {b : Bool} {tv : Value} {bm bt : Nat} {I : List α → NSet → World → Prop} {B B' : Nat} {C : NSet} (h : ∀ pre, Stab B C (I pre)) (hB : B ≤ B') (ht : bt < B' ∧ ¬ C bt) (pre : List α) : Stab B' C (TameJ b tv bm bt I pre) :=
  ((h pre).own (b := bm) (L := [.bool b]) (t := 4) hB).blk (L := [tv]) (t := 115) (Nat.le_refl _) ht.1 ht.2

set_option maxRecDepth 100000 in
set_option maxHeartbeats 1000000 in
theorem tamew {α : Type} {E : EncR α} {xs : List α} {B : Nat} {F0 C X : NSet} {tv : Value} {J Jx : List α → NSet → World → Prop} (htv : IsFn tv) (hE : EOk X E) (hSJ : ∀ pre, Stab B C (J pre)) (hSX : ∀ pre, Stab B C (Jx pre)) (ht : Takes Try.prog E xs B F0 tv J Jx)
    {bm bt B' : Nat} (hB : B ≤ B') (hbm : bm < B' ∧ B ≤ bm) (hbt : bt < B') (hmt : bm ≠ bt) :
    Takes Try.prog E xs B' (fun k => F0 k ∨ k = bm) (.func (.func 89) #[] #[.pointer (some ⟨bm, 0, none⟩), .pointer (some ⟨bt, 0, none⟩)]) (TameJ true tv bm bt J) (TameJ false tv bm bt Jx) := by
  rintro pre x post F G v W hxs ⟨⟨Fi, rfl, hJ, hBm, hnm⟩, hBt, hnt⟩ hBW hF hEx hG
  have hGm : ¬ G bm := fun h => by have := (hG bm h).2; omega
  have hGt : ¬ G bt := fun h => by have := (hG bt h).2; omega
  have hnt2 : ¬ Fi bt := fun h => hnt (.inl h)
  have hltm := hBm.lt
  have hltt := hBt.lt
  have c1 : W.cell? ⟨bm, 0, none⟩ = some (.bool true) := hBm.cell 0
  have c2 : W.cell? ⟨bt, 0, none⟩ = some tv := hBt.cell 0
  have hyc := ht pre x post Fi G v W hxs hJ (by omega) (fun k hk => by
    rcases hF k (.inl hk) with (h | h) | h
    · exact .inl h
    · exact absurd (h ▸ hk) hnm
    · exact .inr (by omega)) hEx (fun k hk => by have := hG k hk; exact ⟨fun h => this.1 (.inl h), by omega, by omega⟩)
  have Hyc := hide hyc
  -- what is left behind
  have Hend : Hid (∀ (b : Bool) (I : List α → NSet → World → Prop) (F' : NSet) (w3 w4 : World), (∀ pre, Stab B C (I pre)) → I (pre ++ [x]) F' w3 → Kept (fun k => Fi k ∨ G k) W w3 → (∀ k, F' k → Fi k ∨ G k ∨ W.heap.size ≤ k) → Blk w4 bm [.bool b] 4 → Kept (fun k => k = bm) w3 w4 →
      TameJ b tv bm bt I (pre ++ [x]) (fun k => F' k ∨ k = bm) w4 ∧ Kept (fun k => (Fi k ∨ k = bm) ∨ G k) W w4 ∧ ∀ k, (F' k ∨ k = bm) → (Fi k ∨ k = bm) ∨ G k ∨ W.heap.size ≤ k) := hide (fun b I F' w3 w4 hSI hI hk3 hF' hb4 hk4 => by
    have hn' : ∀ j, j < W.heap.size → ¬ Fi j → ¬ G j → ¬ F' j := fun j hj h1 h2 h3 => by
      rcases hF' j h3 with h | h | h
      · exact h1 h
      · exact h2 h
      · omega
    refine ⟨⟨⟨F', rfl, ?_, hb4, hn' bm hltm hnm hGm⟩, ?_, ?_⟩, ?_, ?_⟩
    · exact (hSI _).kept _ _ _ _ hI hk4 (fun k h1 h2 => hn' bm hltm hnm hGm (h1 ▸ h2)) (fun k h1 h2 => by omega)
    · exact hk4.blk (hk3.blk hBt (fun h => h.elim hnt2 hGt)) (fun h => hmt h.symm)
    · rintro (h | h)
      · exact hn' bt hltt hnt2 hGt h
      · exact hmt h.symm
    · exact (hk3.mono (T := fun k => (Fi k ∨ k = bm) ∨ G k) (fun k _ h => h.elim (fun h => .inl (.inl h)) .inr)).trans hk4 (fun k _ h => .inl (.inr h))
    · rintro k (h | h)
      · rcases hF' k h with h | h | h
        · exact .inl (.inl h)
        · exact .inr (.inl h)
        · exact .inr (.inr h)
      · exact .inl (.inr h))
  have Hbm : Hid (∀ w3, Kept (fun k => Fi k ∨ G k) W w3 → Blk w3 bm [.bool true] 4) := hide (fun w3 hk3 => hk3.blk hBm (fun h => h.elim hnm hGm))
  have HSJ := hide hSJ
  have HSX := hide hSX
  obtain ⟨tf, tl, rfl⟩ := htv
  clear hyc hJ hBm hBt hEx hG hF hxs ht hE hSJ hSX
  refine .inl ⟨_, _, rfl, enters_of Try.func89 (by kernel_rfl) rfl, ?_⟩
  show Calls Try.prog 89 #[v, .pointer (some ⟨bm, 0, none⟩), .pointer (some ⟨bt, 0, none⟩)] W _
  refine (callsIn_wide (n := 4)).1 (callsIn_of_wp Try.func89 rfl trivial ?_ rfl)
  simp only [Try.ntmps89, List.size_toArray, List.length_cons, List.length_nil, Nat.reduceAdd, Nat.reduceSub, Array.replicate_succ, Array.replicate_zero, List.push_toArray, List.append_toArray, List.nil_append, List.cons_append]
  gi_wp2_with (first
    | (with_reducible refine stopi_val1 ?_)
    | ((with_reducible refine And.intro ?_ ?_); · exact fun _ _ => trivial))
  refine hide ?_
  try simp only [put_lit, List.set_cons_succ, List.set_cons_zero]
  refine ai_yc1 (yv := .func tf #[] tl) (vy := v) rfl rfl rfl Hyc.out ?_
  rintro e w3 ⟨F', hcase, hk3, hF'⟩
  have cm : w3.cell? ⟨bm, 0, none⟩ = some (.bool true) := (Hbm.out w3 hk3).cell 0
  have fm : w3.frozen? ⟨bm, 0, none⟩ = false := (Hbm.out w3 hk3).frozen 0
  rcases hcase with ⟨rfl, hJ3⟩ | ⟨rfl, hJ3⟩
  · have HF := hide (Hend.out true J F' w3 (w3.setCell ⟨bm, 0, none⟩ (.bool true)) HSJ.out hJ3 hk3 hF' ((Hbm.out w3 hk3).setCell 0 _) (Kept.setCell _ _ _ rfl))
    clear hJ3 hk3 hF' c1 c2
    refine ⟨_, rfl, ?_⟩
    try simp only [put_lit, List.set_cons_succ, List.set_cons_zero]
    gi_wp2
    go_ret
    exact ⟨_, .inl ⟨rfl, HF.out.1⟩, HF.out.2.1, HF.out.2.2⟩
  · have HF := hide (Hend.out false Jx F' w3 (w3.setCell ⟨bm, 0, none⟩ (.bool false)) HSX.out hJ3 hk3 hF' ((Hbm.out w3 hk3).setCell 0 _) (Kept.setCell _ _ _ rfl))
    clear hJ3 hk3 hF' c1 c2
    refine ⟨_, rfl, ?_⟩
    try simp only [put_lit, List.set_cons_succ, List.set_cons_zero]
    gi_wp2
    go_ret
    exact ⟨_, .inr ⟨rfl, HF.out.1⟩, HF.out.2.1, HF.out.2.2⟩

set_option maxRecDepth 100000 in
set_option maxHeartbeats 1000000 in
theorem tame1_at {α : Type} {sv : Value} {E : EncR α} {xs : List α} {X C : NSet} {Post : Bool → List α → World → Prop} {W : World} {bs : Nat} (hs : SeqOk Try.prog sv E xs X C Post W) (hfn : IsFn sv) (hbs : Blk W bs [sv] 107) (hcb : ¬ C bs) :
    FSeqAt Try.prog (.func (.func 87) #[] #[.pointer (some ⟨bs, 0, none⟩)]) E xs (fun k => X k ∨ k = bs) C Post W := by
  intro tv J Jx F0 htv hJ hJx hF0 ht h0
  obtain ⟨i4, hi4, hz4, hs4, hb4⟩ := info_parts Try.info4
  have Hi := hide hi4
  have Hz := hide hz4
  have Hs := hide hs4
  have hlts := hbs.lt
  have hlt0 := (hJ []).lt _ _ h0
  have hCl : ∀ k, C k → k < W.heap.size := fun k h => hs.lt k (.inr h)
  have Hrun : Hid (∀ w2 bm, Kept (fun _ => False) W w2 → bm = W.heap.size + 1 → w2.heap.size = W.heap.size + 2 → Blk w2 W.heap.size [tv] 115 → Blk w2 bm [.bool true] 4 →
      YC Try.prog sv #[.func (.func 89) #[] #[.pointer (some ⟨bm, 0, none⟩), .pointer (some ⟨W.heap.size, 0, none⟩)]] w2 (fun e W' => (∃ u, e = .returned u) ∧ ∃ b, Blk W' bm [.bool b] 4 ∧ ∀ W'', Kept (fun k => k = bm) W' W'' → FEnded J Jx xs C Post F0 W (.returned (.tuple #[])) W'')) := hide (fun w2 bm hk2 hbm hz2 hbt hbb => by
    refine (hs.run hfn w2 _ hk2 (fun _ h => h.elim) (.func (.func 89) #[] #[.pointer (some ⟨bm, 0, none⟩), .pointer (some ⟨W.heap.size, 0, none⟩)]) (TameJ true tv bm W.heap.size J) (TameJ false tv bm W.heap.size Jx) (fun k => F0 k ∨ k = bm) ⟨_, _, rfl⟩
      (TameJ.stab hJ (by omega) ⟨by omega, fun h => by have := hCl _ h; omega⟩) (TameJ.stab hJx (by omega) ⟨by omega, fun h => by have := hCl _ h; omega⟩)
      (fun k h => h.elim (fun h => ⟨fun hx => (hF0 k h).1 (.inl hx), (hF0 k h).2⟩) (fun h => ⟨fun hx => by have := hs.lt k (.inl hx); omega, fun hx => by have := hCl k hx; omega⟩))
      (tamew htv hs.enc hJ hJx ht (by omega) ⟨by omega, by omega⟩ (by omega) (by omega))
      ⟨⟨F0, rfl, (hJ []).none h0 hk2, hbb, fun h => by have := hlt0 _ h; omega⟩, hbt, fun h => h.elim (fun h => by have := hlt0 _ h; omega) (fun h => by omega)⟩).mono ?_
    rintro e W' ⟨⟨u, rfl⟩, b, hkW, hcase⟩
    refine ⟨⟨u, rfl⟩, ?_⟩
    have hFo : ∀ (Fi : NSet), (∀ k, (Fi k ∨ k = bm) → (F0 k ∨ k = bm) ∨ w2.heap.size ≤ k) → ∀ k, Fi k → F0 k ∨ W.heap.size ≤ k := fun Fi h k hk => by
      rcases h k (.inl hk) with (h | h) | h
      · exact .inl h
      · exact .inr (by omega)
      · exact .inr (by omega)
    have hkF : ∀ W'', Kept (fun k => k = bm) W' W'' → Kept (fun k => F0 k ∨ C k) W W'' := fun W'' hk => ((hk2.mono (T := fun k => F0 k ∨ C k) (fun _ _ h => h.elim)).trans hkW (fun k hk h => by
      rcases h with (h | h) | h
      · exact .inl h
      · omega
      · exact .inr h)).trans hk (fun k hk h => by omega)
    have hP : ∀ b pre W'', Post b pre W' → Kept (fun k => k = bm) W' W'' → Post b pre W'' := fun b pre W'' h hk => hs.post _ _ _ _ _ h hk (fun k h1 h2 => by have := hCl k h2; omega)
    rcases hcase with ⟨rfl, F', ⟨⟨Fi, rfl, hi, hbm', hnm⟩, _, _⟩, hF', hPo⟩ | ⟨rfl, pre, F', hpre, ⟨⟨Fi, rfl, hi, hbm', hnm⟩, _, _⟩, hF', hPo⟩
    · refine ⟨true, hbm', fun W'' hk => ⟨⟨_, rfl⟩, true, hkF W'' hk, .inl ⟨rfl, Fi, ?_, hFo Fi hF', hP _ _ _ hPo hk⟩⟩⟩
      exact (hJ _).kept _ _ _ _ hi hk (fun k h1 h2 => hnm (h1 ▸ h2)) (fun k h1 h2 => by omega)
    · refine ⟨false, hbm', fun W'' hk => ⟨⟨_, rfl⟩, false, hkF W'' hk, .inr ⟨rfl, pre, Fi, hpre, ?_, hFo Fi hF', hP _ _ _ hPo hk⟩⟩⟩
      exact (hJx _).kept _ _ _ _ hi hk (fun k h1 h2 => hnm (h1 ▸ h2)) (fun k h1 h2 => by omega))
  have HBs := hide hbs
  obtain ⟨tf, tl, rfl⟩ := htv
  obtain ⟨sf, sl, rfl⟩ := hfn
  have hq := eql62 sf sl
  have hmf : ∀ (fn : Fn) (first cap : Array Value) (w : World), (Instr.makeFunc fn first cap).run Try.prog w = .ok (.func fn first cap) w := fun _ _ _ _ => rfl
  clear hs hbs hcb hJ hJx hF0 ht h0 hlt0 hCl hi4 hz4 hs4 hb4
  refine .inl ⟨_, _, rfl, enters_of Try.func87 (by kernel_rfl) rfl, ?_⟩
  show Calls Try.prog 87 #[.func tf #[] tl, .pointer (some ⟨bs, 0, none⟩)] W _
  refine (callsIn_wide (n := 4)).1 (callsIn_of_wp_defers Try.func87 rfl trivial ?_ rfl)
  simp only [Try.ntmps87, List.size_toArray, List.length_cons, List.length_nil, Nat.reduceAdd, Nat.reduceSub, Array.replicate_succ, Array.replicate_zero, List.push_toArray, List.append_toArray, List.nil_append, List.cons_append]
  gi_wp2_with (first
    | ((with_reducible refine ai_box (t := 115) (v := .func tf #[] tl) rfl ?_); intro w1 hb1 hk1 hz1; have Hz1 := hide hz1; clear hz1; have c0 : w1.cell? ⟨bs, 0, none⟩ = some (.func sf #[] sl) := (hk1.blk HBs.out (fun h => h)).cell 0)
    | ((with_reducible refine ai_alloc (t := 4) Hi.out Hz.out ?_); intro w2 hb2 hk2 hz2; have Hz2 := hide hz2; clear hz2 c0)
    | (with_reducible refine stopi_store 4 ?_)
    | ((with_reducible refine And.intro ?_ ?_); · exact fun _ _ => trivial))
  refine hide ?_
  refine ai_store1 (v := .bool true) (off := 0) Hi.out Hs.out rfl rfl rfl rfl hb2 (by simp [Value.cells]) ?_
  intro w3 hb3 hk3 hz3
  have hz1 := Hz1.out
  have hz2 := Hz2.out
  have hk13 : Kept (fun _ => False) w1 w3 := hk2.trans hk3 (fun i hi h => by omega)
  have hk03 : Kept (fun _ => False) W w3 := hk1.trans hk13 (fun _ _ h => h)
  have Hyc := hide (Hrun.out w3 w1.heap.size hk03 hz1 (by omega) (hk13.blk hb1 (fun h => h)) hb3)
  have c0 : w3.cell? ⟨bs, 0, none⟩ = some (.func sf #[] sl) := (hk03.blk HBs.out (fun h => h)).cell 0
  obtain ⟨bm, hbm⟩ : ∃ bm, bm = w1.heap.size := ⟨_, rfl⟩
  rw [← hbm] at Hyc ⊢
  clear hz1 hz2 hz3 Hz1 Hz2 hb1 hb2 hb3 hk1 hk2 hk3 hk13 hk03 hbm
  try simp only [put_lit, put_none, List.set_cons_succ, List.set_cons_zero]
  gi_wp2_with (first
    | (with_reducible refine stopi_val1 ?_)
    | ((with_reducible refine And.intro ?_ ?_); · exact fun _ _ => trivial))
  refine hide ?_
  try simp only [put_lit, List.set_cons_succ, List.set_cons_zero]
  refine ai_yc1 (yv := .func sf #[] sl) (vy := .func (.func 89) #[] #[.pointer (some ⟨bm, 0, none⟩), .pointer (some ⟨W.heap.size, 0, none⟩)]) rfl rfl rfl Hyc.out ?_
  rintro e w4 ⟨⟨u, rfl⟩, b, hb4, hfin⟩
  refine ⟨_, rfl, ?_⟩
  have Hfin := hide hfin
  have Hb4 := hide hb4
  clear hfin hb4 c0
  try simp only [put_lit, List.set_cons_succ, List.set_cons_zero]
  gi_wp2
  have hent : ∀ args w, (callFunc 88 args).run Try.prog w = .ok (.enter 88 args) w := enters_of Try.func88 (by kernel_rfl) rfl
  refine leavesIn_cons (f := 88) (args := #[.pointer (some ⟨bm, 0, none⟩)]) (by simp) (by simp [Fence.wide]) (by simp [go_sem, hent]) (fun _ _ => trivial) ?_
  refine (shut_at _ w4 bm b Hb4.out).mono ?_
  rintro e u' w5 ⟨rfl, rfl, hb5, hk5⟩
  have hend := Hfin.out w5 hk5
  exact ⟨_, results_none rfl _ _ _, hend⟩
theorem tame_ok {α : Type} {sv : Value} {E : EncR α} {xs : List α} {X C : NSet} {Post : Bool → List α → World → Prop} {W : World} {bs : Nat} (hs : SeqOk Try.prog sv E xs X C Post W) (hfn : IsFn sv) (hbs : Blk W bs [sv] 107) (hcb : ¬ C bs) :
    SeqOk Try.prog (.func (.func 87) #[] #[.pointer (some ⟨bs, 0, none⟩)]) E xs (fun k => X k ∨ k = bs) C Post W := by
  refine ⟨.inl ⟨_, _, rfl⟩, ?_, ?_, ?_, hs.post, ?_⟩
  · rintro k ((h | h) | h)
    · exact hs.lt k (.inl h)
    · rw [h]; exact hbs.lt
    · exact hs.lt k (.inr h)
  · rintro k (h | h)
    · exact hs.apart k h
    · rw [h]; exact hcb
  · intro x v G W W' S h hk hS
    exact hs.enc x v G W W' S h hk (fun k h => ⟨(hS k h).1, fun hx => (hS k h).2 (.inl hx)⟩)
  · intro _ W' S hk hS
    exact tame1_at (hs.kept hk (fun k h => ⟨fun hx => (hS k h).1 (.inl hx), (hS k h).2⟩)) hfn (hk.blk hbs (fun h => (hS _ h).1 (.inr rfl))) hcb
set_option maxHeartbeats 1000000 in
theorem tame_at (W : World) (sv : Value) (hsv : sv.cells = #[sv]) :
    Calls Try.prog 72 #[sv] W fun e W' => ∃ bs, e = .returned (.func (.func 87) #[] #[.pointer (some ⟨bs, 0, none⟩)]) ∧ Blk W' bs [sv] 107 ∧ Kept (fun _ => False) W W' ∧ W.heap.size ≤ bs := by
  have Hsv := hide hsv
  clear hsv
  go_enter Try.func72, Try.ntmps72
  go_wp2_with (first
    | ((with_reducible refine aw_box (t := 107) (v := sv) rfl ?_); intro w1 hb1 hk1 hz1; have Hb1 := hide hb1; have Hk1 := hide hk1; clear hz1 hb1 hk1))
  go_ret
  have hb1 := Hb1.out
  rw [Hsv.out] at hb1
  exact ⟨_, rfl, hb1, Hk1.out, Nat.le_refl _⟩
end Go.Proofs.Ytbbhchmdggfncaa


/-
  Slices that a sequence hands on, and the steps that cut them.
-/
namespace Go.Proofs.Ytbbhchmdggfncaa
open Go.RowKit Go.Shelf
set_option linter.unusedSimpArgs false
set_option linter.unusedVariables false
set_option maxRecDepth 100000
attribute [local go_sem] Oper.semAt_some

theorem Src.keptC {S : NSet} {w w' : World} {v : Value} {B : List Nat} (h : Src w v B) (hk : Kept S w w') (hn : ∀ k, 0 < B.length → vX v k → ¬ S k) : Src w' v B := by
  obtain ⟨bo, cap, rfl, h1, h2, h3, h4⟩ := h
  refine ⟨bo, cap, rfl, h1, h2, fun h => ?_, h4⟩
  obtain ⟨sb, so, rfl, hc⟩ := h3 h
  exact ⟨sb, so, rfl, hk.cells hc (hn sb h ⟨so, _, _, rfl⟩)⟩
/-- A slice that is read, in blocks of X. -/
def EC (X : NSet) : EncR (List Nat) := fun x v G W => Src W v x ∧ (∀ k, ¬ G k) ∧ ∀ k, 0 < x.length → vX v k → X k
theorem EC.ok (X : NSet) : EOk X (EC X) := fun x v G W W' S h hk hS => ⟨h.1.keptC hk (fun k h1 h2 h3 => (hS k h3).2 (h.2.2 k h1 h2)), h.2.1, h.2.2⟩
section
variable {n : Nat} {P : Program} {ops : Array Oper} {Q : Exit → Act → World → Prop} {a : Act} {w : World} {rest : List Oper} {dst : Option Tmp} {ty : TypeId} {pos : String} {aft : Array Edge} {x y : Operand} {F : Fence}
theorem stopi_slice (t : TypeId) {l h m : Option Operand} (hh : Hid (wpListIn F n P ops Q (⟨dst, .slice t x l h m, ty, pos, aft, none⟩ :: rest) a w)) : wpListIn F n P ops Q (⟨dst, .slice t x l h m, ty, pos, aft, none⟩ :: rest) a w := hh.out
end
theorem Src.vlt {w : World} {v : Value} {B : List Nat} (h : Src w v B) (h0 : 0 < B.length) {k : Nat} (hk : vX v k) : k < w.heap.size := by
  obtain ⟨off, n, c, rfl⟩ := hk
  obtain ⟨bo, cap, e, h1, h2, h3, h4⟩ := h
  cases e
  obtain ⟨sb, so, e, hc⟩ := h3 h0
  cases e
  have := hc 0 _ (BV_get B 0 h0)
  exact World.block_lt_of_cell? w _ this
end Go.Proofs.Ytbbhchmdggfncaa


/-
  comes: is a frame the one that comes there?
-/
namespace Go.Proofs.Ytbbhchmdggfncaa
open Go.RowKit Go.Shelf
set_option linter.unusedSimpArgs false
set_option linter.unusedVariables false
set_option maxRecDepth 100000

def comesP (l e i c : Int) (len : Nat) (l' e' i' c' : Int) : Bool := (decide (l = l' ∧ e = e' ∧ i = i' ∧ c = c') && (decide (i = c - 1) || decide (len = 40))) && (decide (i = 0) || decide (0 < len))
set_option maxRecDepth 100000 in
set_option maxHeartbeats 4000000 in
theorem comesP_at (w : World) (l e i c : Int) (bo : Option Addr) (len cap : Nat) (l' e' i' c' : Int) (vn : Value) (hc : 0 ≤ c ∧ c ≤ 65535) (b : Bool) (hb : comesP l e i c len l' e' i' c' = b) :
    Calls Try.prog 73 #[.agg #[.int .i64 l, .int .i64 e, .int .i64 i, .int .i64 c, .slice bo len cap], .agg #[.int .i64 l', .int .i64 e', .int .i64 i', .int .i64 c', vn]] w fun e w' => e = .returned (.bool b) ∧ Kept (fun _ => False) w w' := by
  have hc1 := hc.1
  have hc2 := hc.2
  have Hb := hide hb
  clear hb hc
  by_cases h1 : l = l'
  · have h1b : (l == l') = true := by simp; omega
    have H1 := hide h1
    clear h1
    by_cases h2 : e = e'
    · have h2b : (e == e') = true := by simp; omega
      have H2 := hide h2
      clear h2
      by_cases h3 : i = i'
      · have h3b : (i == i') = true := by simp; omega
        have H3 := hide h3
        clear h3
        by_cases h4 : c = c'
        · have h4b : (c == c') = true := by simp; omega
          have H4 := hide h4
          clear h4
          by_cases h5 : i = c - 1
          · have h5b : (i == c - 1) = true := by simp; omega
            have H5 := hide h5
            clear h5
            by_cases h6 : i = 0
            · have h6b : (i == 0) = true := by simp; omega
              have H6 := hide h6
              clear h6
              go_enter Try.func73, Try.ntmps73
              go_wp2_with (first
                | ((with_reducible refine aw_box (dst := some 2) (t := 98) (v := .agg #[.int .i64 l, .int .i64 e, .int .i64 i, .int .i64 c, .slice bo len cap]) rfl ?_); intro w1 hb1 hk1 hz1)
                | ((with_reducible refine aw_box (dst := some 3) (t := 98) (v := .agg #[.int .i64 l', .int .i64 e', .int .i64 i', .int .i64 c', vn]) rfl ?_); intro w2 hb2 hk2 hz2; have c0 : w2.cell? ⟨w.heap.size, 0, none⟩ = some (.int .i64 l) := (hk2.blk hb1 (fun h => h)).cell 0; have c1 : w2.cell? ⟨w.heap.size, 1, none⟩ = some (.int .i64 e) := (hk2.blk hb1 (fun h => h)).cell 1; have c2 : w2.cell? ⟨w.heap.size, 2, none⟩ = some (.int .i64 i) := (hk2.blk hb1 (fun h => h)).cell 2; have c3 : w2.cell? ⟨w.heap.size, 3, none⟩ = some (.int .i64 c) := (hk2.blk hb1 (fun h => h)).cell 3; have c4 : w2.cell? ⟨w.heap.size, 4, none⟩ = some (.slice bo len cap) := (hk2.blk hb1 (fun h => h)).cell 4; have d0 : w2.cell? ⟨w1.heap.size, 0, none⟩ = some (.int .i64 l') := hb2.cell 0; have d1 : w2.cell? ⟨w1.heap.size, 1, none⟩ = some (.int .i64 e') := hb2.cell 1; have d2 : w2.cell? ⟨w1.heap.size, 2, none⟩ = some (.int .i64 i') := hb2.cell 2; have d3 : w2.cell? ⟨w1.heap.size, 3, none⟩ = some (.int .i64 c') := hb2.cell 3; have hkk := hide (hk1.trans hk2 (fun _ _ h => h)); clear hb1 hb2 hk1 hk2 hz1 hz2)
                | fail)
              go_ret
              refine ⟨?_, hkk.out⟩
              rw [← Hb.out]
              have h1 := H1.out
              have h2 := H2.out
              have h3 := H3.out
              have h4 := H4.out
              have h5 := H5.out
              have h6 := H6.out
              have fin : (comesP l e i c len l' e' i' c') = true := by
                unfold comesP
                simp
                try omega
              rw [fin]
              try simp
              try omega
            · have h6b : (i == 0) = false := by simp; omega
              have H6 := hide h6
              clear h6
              by_cases h7 : 0 < len
              · have h7b : ¬ len = 0 := by omega
                go_enter Try.func73, Try.ntmps73
                go_wp2_with (first
                  | ((with_reducible refine aw_box (dst := some 2) (t := 98) (v := .agg #[.int .i64 l, .int .i64 e, .int .i64 i, .int .i64 c, .slice bo len cap]) rfl ?_); intro w1 hb1 hk1 hz1)
                  | ((with_reducible refine aw_box (dst := some 3) (t := 98) (v := .agg #[.int .i64 l', .int .i64 e', .int .i64 i', .int .i64 c', vn]) rfl ?_); intro w2 hb2 hk2 hz2; have c0 : w2.cell? ⟨w.heap.size, 0, none⟩ = some (.int .i64 l) := (hk2.blk hb1 (fun h => h)).cell 0; have c1 : w2.cell? ⟨w.heap.size, 1, none⟩ = some (.int .i64 e) := (hk2.blk hb1 (fun h => h)).cell 1; have c2 : w2.cell? ⟨w.heap.size, 2, none⟩ = some (.int .i64 i) := (hk2.blk hb1 (fun h => h)).cell 2; have c3 : w2.cell? ⟨w.heap.size, 3, none⟩ = some (.int .i64 c) := (hk2.blk hb1 (fun h => h)).cell 3; have c4 : w2.cell? ⟨w.heap.size, 4, none⟩ = some (.slice bo len cap) := (hk2.blk hb1 (fun h => h)).cell 4; have d0 : w2.cell? ⟨w1.heap.size, 0, none⟩ = some (.int .i64 l') := hb2.cell 0; have d1 : w2.cell? ⟨w1.heap.size, 1, none⟩ = some (.int .i64 e') := hb2.cell 1; have d2 : w2.cell? ⟨w1.heap.size, 2, none⟩ = some (.int .i64 i') := hb2.cell 2; have d3 : w2.cell? ⟨w1.heap.size, 3, none⟩ = some (.int .i64 c') := hb2.cell 3; have hkk := hide (hk1.trans hk2 (fun _ _ h => h)); clear hb1 hb2 hk1 hk2 hz1 hz2)
                  | fail)
                go_ret
                refine ⟨?_, hkk.out⟩
                rw [← Hb.out]
                have h1 := H1.out
                have h2 := H2.out
                have h3 := H3.out
                have h4 := H4.out
                have h5 := H5.out
                have h6 := H6.out
                have fin : (comesP l e i c len l' e' i' c') = true := by
                  unfold comesP
                  simp
                  try omega
                rw [fin]
                try simp
                try omega
              · have h7b : ¬ (0 : Int) < (len : Int) := by omega
                go_enter Try.func73, Try.ntmps73
                go_wp2_with (first
                  | ((with_reducible refine aw_box (dst := some 2) (t := 98) (v := .agg #[.int .i64 l, .int .i64 e, .int .i64 i, .int .i64 c, .slice bo len cap]) rfl ?_); intro w1 hb1 hk1 hz1)
                  | ((with_reducible refine aw_box (dst := some 3) (t := 98) (v := .agg #[.int .i64 l', .int .i64 e', .int .i64 i', .int .i64 c', vn]) rfl ?_); intro w2 hb2 hk2 hz2; have c0 : w2.cell? ⟨w.heap.size, 0, none⟩ = some (.int .i64 l) := (hk2.blk hb1 (fun h => h)).cell 0; have c1 : w2.cell? ⟨w.heap.size, 1, none⟩ = some (.int .i64 e) := (hk2.blk hb1 (fun h => h)).cell 1; have c2 : w2.cell? ⟨w.heap.size, 2, none⟩ = some (.int .i64 i) := (hk2.blk hb1 (fun h => h)).cell 2; have c3 : w2.cell? ⟨w.heap.size, 3, none⟩ = some (.int .i64 c) := (hk2.blk hb1 (fun h => h)).cell 3; have c4 : w2.cell? ⟨w.heap.size, 4, none⟩ = some (.slice bo len cap) := (hk2.blk hb1 (fun h => h)).cell 4; have d0 : w2.cell? ⟨w1.heap.size, 0, none⟩ = some (.int .i64 l') := hb2.cell 0; have d1 : w2.cell? ⟨w1.heap.size, 1, none⟩ = some (.int .i64 e') := hb2.cell 1; have d2 : w2.cell? ⟨w1.heap.size, 2, none⟩ = some (.int .i64 i') := hb2.cell 2; have d3 : w2.cell? ⟨w1.heap.size, 3, none⟩ = some (.int .i64 c') := hb2.cell 3; have hkk := hide (hk1.trans hk2 (fun _ _ h => h)); clear hb1 hb2 hk1 hk2 hz1 hz2)
                  | fail)
                go_ret
                refine ⟨?_, hkk.out⟩
                rw [← Hb.out]
                have h1 := H1.out
                have h2 := H2.out
                have h3 := H3.out
                have h4 := H4.out
                have h5 := H5.out
                have h6 := H6.out
                have fin : (comesP l e i c len l' e' i' c') = false := by
                  unfold comesP
                  simp
                  try omega
                rw [fin]
                try simp
                try omega
          · have h5b : (i == c - 1) = false := by simp; omega
            have H5 := hide h5
            clear h5
            by_cases h8 : len = 40
            · have h8b : ((len : Int) == 40) = true := by simp; omega
              have H8 := hide h8
              clear h8
              by_cases h6 : i = 0
              · have h6b : (i == 0) = true := by simp; omega
                have H6 := hide h6
                clear h6
                go_enter Try.func73, Try.ntmps73
                go_wp2_with (first
                  | ((with_reducible refine aw_box (dst := some 2) (t := 98) (v := .agg #[.int .i64 l, .int .i64 e, .int .i64 i, .int .i64 c, .slice bo len cap]) rfl ?_); intro w1 hb1 hk1 hz1)
                  | ((with_reducible refine aw_box (dst := some 3) (t := 98) (v := .agg #[.int .i64 l', .int .i64 e', .int .i64 i', .int .i64 c', vn]) rfl ?_); intro w2 hb2 hk2 hz2; have c0 : w2.cell? ⟨w.heap.size, 0, none⟩ = some (.int .i64 l) := (hk2.blk hb1 (fun h => h)).cell 0; have c1 : w2.cell? ⟨w.heap.size, 1, none⟩ = some (.int .i64 e) := (hk2.blk hb1 (fun h => h)).cell 1; have c2 : w2.cell? ⟨w.heap.size, 2, none⟩ = some (.int .i64 i) := (hk2.blk hb1 (fun h => h)).cell 2; have c3 : w2.cell? ⟨w.heap.size, 3, none⟩ = some (.int .i64 c) := (hk2.blk hb1 (fun h => h)).cell 3; have c4 : w2.cell? ⟨w.heap.size, 4, none⟩ = some (.slice bo len cap) := (hk2.blk hb1 (fun h => h)).cell 4; have d0 : w2.cell? ⟨w1.heap.size, 0, none⟩ = some (.int .i64 l') := hb2.cell 0; have d1 : w2.cell? ⟨w1.heap.size, 1, none⟩ = some (.int .i64 e') := hb2.cell 1; have d2 : w2.cell? ⟨w1.heap.size, 2, none⟩ = some (.int .i64 i') := hb2.cell 2; have d3 : w2.cell? ⟨w1.heap.size, 3, none⟩ = some (.int .i64 c') := hb2.cell 3; have hkk := hide (hk1.trans hk2 (fun _ _ h => h)); clear hb1 hb2 hk1 hk2 hz1 hz2)
                  | fail)
                go_ret
                refine ⟨?_, hkk.out⟩
                rw [← Hb.out]
                have h1 := H1.out
                have h2 := H2.out
                have h3 := H3.out
                have h4 := H4.out
                have h5 := H5.out
                have h8 := H8.out
                have h6 := H6.out
                have fin : (comesP l e i c len l' e' i' c') = true := by
                  unfold comesP
                  simp
                  try omega
                rw [fin]
                try simp
                try omega
              · have h6b : (i == 0) = false := by simp; omega
                have H6 := hide h6
                clear h6
                go_enter Try.func73, Try.ntmps73
                go_wp2_with (first
                  | ((with_reducible refine aw_box (dst := some 2) (t := 98) (v := .agg #[.int .i64 l, .int .i64 e, .int .i64 i, .int .i64 c, .slice bo len cap]) rfl ?_); intro w1 hb1 hk1 hz1)
                  | ((with_reducible refine aw_box (dst := some 3) (t := 98) (v := .agg #[.int .i64 l', .int .i64 e', .int .i64 i', .int .i64 c', vn]) rfl ?_); intro w2 hb2 hk2 hz2; have c0 : w2.cell? ⟨w.heap.size, 0, none⟩ = some (.int .i64 l) := (hk2.blk hb1 (fun h => h)).cell 0; have c1 : w2.cell? ⟨w.heap.size, 1, none⟩ = some (.int .i64 e) := (hk2.blk hb1 (fun h => h)).cell 1; have c2 : w2.cell? ⟨w.heap.size, 2, none⟩ = some (.int .i64 i) := (hk2.blk hb1 (fun h => h)).cell 2; have c3 : w2.cell? ⟨w.heap.size, 3, none⟩ = some (.int .i64 c) := (hk2.blk hb1 (fun h => h)).cell 3; have c4 : w2.cell? ⟨w.heap.size, 4, none⟩ = some (.slice bo len cap) := (hk2.blk hb1 (fun h => h)).cell 4; have d0 : w2.cell? ⟨w1.heap.size, 0, none⟩ = some (.int .i64 l') := hb2.cell 0; have d1 : w2.cell? ⟨w1.heap.size, 1, none⟩ = some (.int .i64 e') := hb2.cell 1; have d2 : w2.cell? ⟨w1.heap.size, 2, none⟩ = some (.int .i64 i') := hb2.cell 2; have d3 : w2.cell? ⟨w1.heap.size, 3, none⟩ = some (.int .i64 c') := hb2.cell 3; have hkk := hide (hk1.trans hk2 (fun _ _ h => h)); clear hb1 hb2 hk1 hk2 hz1 hz2)
                  | fail)
                go_ret
                refine ⟨?_, hkk.out⟩
                rw [← Hb.out]
                have h1 := H1.out
                have h2 := H2.out
                have h3 := H3.out
                have h4 := H4.out
                have h5 := H5.out
                have h8 := H8.out
                have h6 := H6.out
                have fin : (comesP l e i c len l' e' i' c') = true := by
                  unfold comesP
                  simp
                  try omega
                rw [fin]
                try simp
                try omega
            · have h8b : ((len : Int) == 40) = false := by simp; omega
              have H8 := hide h8
              clear h8
              go_enter Try.func73, Try.ntmps73
              go_wp2_with (first
                | ((with_reducible refine aw_box (dst := some 2) (t := 98) (v := .agg #[.int .i64 l, .int .i64 e, .int .i64 i, .int .i64 c, .slice bo len cap]) rfl ?_); intro w1 hb1 hk1 hz1)
                | ((with_reducible refine aw_box (dst := some 3) (t := 98) (v := .agg #[.int .i64 l', .int .i64 e', .int .i64 i', .int .i64 c', vn]) rfl ?_); intro w2 hb2 hk2 hz2; have c0 : w2.cell? ⟨w.heap.size, 0, none⟩ = some (.int .i64 l) := (hk2.blk hb1 (fun h => h)).cell 0; have c1 : w2.cell? ⟨w.heap.size, 1, none⟩ = some (.int .i64 e) := (hk2.blk hb1 (fun h => h)).cell 1; have c2 : w2.cell? ⟨w.heap.size, 2, none⟩ = some (.int .i64 i) := (hk2.blk hb1 (fun h => h)).cell 2; have c3 : w2.cell? ⟨w.heap.size, 3, none⟩ = some (.int .i64 c) := (hk2.blk hb1 (fun h => h)).cell 3; have c4 : w2.cell? ⟨w.heap.size, 4, none⟩ = some (.slice bo len cap) := (hk2.blk hb1 (fun h => h)).cell 4; have d0 : w2.cell? ⟨w1.heap.size, 0, none⟩ = some (.int .i64 l') := hb2.cell 0; have d1 : w2.cell? ⟨w1.heap.size, 1, none⟩ = some (.int .i64 e') := hb2.cell 1; have d2 : w2.cell? ⟨w1.heap.size, 2, none⟩ = some (.int .i64 i') := hb2.cell 2; have d3 : w2.cell? ⟨w1.heap.size, 3, none⟩ = some (.int .i64 c') := hb2.cell 3; have hkk := hide (hk1.trans hk2 (fun _ _ h => h)); clear hb1 hb2 hk1 hk2 hz1 hz2)
                | fail)
              go_ret
              refine ⟨?_, hkk.out⟩
              rw [← Hb.out]
              have h1 := H1.out
              have h2 := H2.out
              have h3 := H3.out
              have h4 := H4.out
              have h5 := H5.out
              have h8 := H8.out
              have fin : (comesP l e i c len l' e' i' c') = false := by
                unfold comesP
                simp
                try omega
              rw [fin]
              try simp
              try omega
        · have h4b : (c == c') = false := by simp; omega
          have H4 := hide h4
          clear h4
          go_enter Try.func73, Try.ntmps73
          go_wp2_with (first
            | ((with_reducible refine aw_box (dst := some 2) (t := 98) (v := .agg #[.int .i64 l, .int .i64 e, .int .i64 i, .int .i64 c, .slice bo len cap]) rfl ?_); intro w1 hb1 hk1 hz1)
            | ((with_reducible refine aw_box (dst := some 3) (t := 98) (v := .agg #[.int .i64 l', .int .i64 e', .int .i64 i', .int .i64 c', vn]) rfl ?_); intro w2 hb2 hk2 hz2; have c0 : w2.cell? ⟨w.heap.size, 0, none⟩ = some (.int .i64 l) := (hk2.blk hb1 (fun h => h)).cell 0; have c1 : w2.cell? ⟨w.heap.size, 1, none⟩ = some (.int .i64 e) := (hk2.blk hb1 (fun h => h)).cell 1; have c2 : w2.cell? ⟨w.heap.size, 2, none⟩ = some (.int .i64 i) := (hk2.blk hb1 (fun h => h)).cell 2; have c3 : w2.cell? ⟨w.heap.size, 3, none⟩ = some (.int .i64 c) := (hk2.blk hb1 (fun h => h)).cell 3; have c4 : w2.cell? ⟨w.heap.size, 4, none⟩ = some (.slice bo len cap) := (hk2.blk hb1 (fun h => h)).cell 4; have d0 : w2.cell? ⟨w1.heap.size, 0, none⟩ = some (.int .i64 l') := hb2.cell 0; have d1 : w2.cell? ⟨w1.heap.size, 1, none⟩ = some (.int .i64 e') := hb2.cell 1; have d2 : w2.cell? ⟨w1.heap.size, 2, none⟩ = some (.int .i64 i') := hb2.cell 2; have d3 : w2.cell? ⟨w1.heap.size, 3, none⟩ = some (.int .i64 c') := hb2.cell 3; have hkk := hide (hk1.trans hk2 (fun _ _ h => h)); clear hb1 hb2 hk1 hk2 hz1 hz2)
            | fail)
          go_ret
          refine ⟨?_, hkk.out⟩
          rw [← Hb.out]
          have h1 := H1.out
          have h2 := H2.out
          have h3 := H3.out
          have h4 := H4.out
          have fin : (comesP l e i c len l' e' i' c') = false := by
            unfold comesP
            simp
            try omega
          rw [fin]
          try simp
          try omega
      · have h3b : (i == i') = false := by simp; omega
        have H3 := hide h3
        clear h3
        go_enter Try.func73, Try.ntmps73
        go_wp2_with (first
          | ((with_reducible refine aw_box (dst := some 2) (t := 98) (v := .agg #[.int .i64 l, .int .i64 e, .int .i64 i, .int .i64 c, .slice bo len cap]) rfl ?_); intro w1 hb1 hk1 hz1)
          | ((with_reducible refine aw_box (dst := some 3) (t := 98) (v := .agg #[.int .i64 l', .int .i64 e', .int .i64 i', .int .i64 c', vn]) rfl ?_); intro w2 hb2 hk2 hz2; have c0 : w2.cell? ⟨w.heap.size, 0, none⟩ = some (.int .i64 l) := (hk2.blk hb1 (fun h => h)).cell 0; have c1 : w2.cell? ⟨w.heap.size, 1, none⟩ = some (.int .i64 e) := (hk2.blk hb1 (fun h => h)).cell 1; have c2 : w2.cell? ⟨w.heap.size, 2, none⟩ = some (.int .i64 i) := (hk2.blk hb1 (fun h => h)).cell 2; have c3 : w2.cell? ⟨w.heap.size, 3, none⟩ = some (.int .i64 c) := (hk2.blk hb1 (fun h => h)).cell 3; have c4 : w2.cell? ⟨w.heap.size, 4, none⟩ = some (.slice bo len cap) := (hk2.blk hb1 (fun h => h)).cell 4; have d0 : w2.cell? ⟨w1.heap.size, 0, none⟩ = some (.int .i64 l') := hb2.cell 0; have d1 : w2.cell? ⟨w1.heap.size, 1, none⟩ = some (.int .i64 e') := hb2.cell 1; have d2 : w2.cell? ⟨w1.heap.size, 2, none⟩ = some (.int .i64 i') := hb2.cell 2; have d3 : w2.cell? ⟨w1.heap.size, 3, none⟩ = some (.int .i64 c') := hb2.cell 3; have hkk := hide (hk1.trans hk2 (fun _ _ h => h)); clear hb1 hb2 hk1 hk2 hz1 hz2)
          | fail)
        go_ret
        refine ⟨?_, hkk.out⟩
        rw [← Hb.out]
        have h1 := H1.out
        have h2 := H2.out
        have h3 := H3.out
        have fin : (comesP l e i c len l' e' i' c') = false := by
          unfold comesP
          simp
          try omega
        rw [fin]
        try simp
        try omega
    · have h2b : (e == e') = false := by simp; omega
      have H2 := hide h2
      clear h2
      go_enter Try.func73, Try.ntmps73
      go_wp2_with (first
        | ((with_reducible refine aw_box (dst := some 2) (t := 98) (v := .agg #[.int .i64 l, .int .i64 e, .int .i64 i, .int .i64 c, .slice bo len cap]) rfl ?_); intro w1 hb1 hk1 hz1)
        | ((with_reducible refine aw_box (dst := some 3) (t := 98) (v := .agg #[.int .i64 l', .int .i64 e', .int .i64 i', .int .i64 c', vn]) rfl ?_); intro w2 hb2 hk2 hz2; have c0 : w2.cell? ⟨w.heap.size, 0, none⟩ = some (.int .i64 l) := (hk2.blk hb1 (fun h => h)).cell 0; have c1 : w2.cell? ⟨w.heap.size, 1, none⟩ = some (.int .i64 e) := (hk2.blk hb1 (fun h => h)).cell 1; have c2 : w2.cell? ⟨w.heap.size, 2, none⟩ = some (.int .i64 i) := (hk2.blk hb1 (fun h => h)).cell 2; have c3 : w2.cell? ⟨w.heap.size, 3, none⟩ = some (.int .i64 c) := (hk2.blk hb1 (fun h => h)).cell 3; have c4 : w2.cell? ⟨w.heap.size, 4, none⟩ = some (.slice bo len cap) := (hk2.blk hb1 (fun h => h)).cell 4; have d0 : w2.cell? ⟨w1.heap.size, 0, none⟩ = some (.int .i64 l') := hb2.cell 0; have d1 : w2.cell? ⟨w1.heap.size, 1, none⟩ = some (.int .i64 e') := hb2.cell 1; have d2 : w2.cell? ⟨w1.heap.size, 2, none⟩ = some (.int .i64 i') := hb2.cell 2; have d3 : w2.cell? ⟨w1.heap.size, 3, none⟩ = some (.int .i64 c') := hb2.cell 3; have hkk := hide (hk1.trans hk2 (fun _ _ h => h)); clear hb1 hb2 hk1 hk2 hz1 hz2)
        | fail)
      go_ret
      refine ⟨?_, hkk.out⟩
      rw [← Hb.out]
      have h1 := H1.out
      have h2 := H2.out
      have fin : (comesP l e i c len l' e' i' c') = false := by
        unfold comesP
        simp
        try omega
      rw [fin]
      try simp
      try omega
  · have h1b : (l == l') = false := by simp; omega
    have H1 := hide h1
    clear h1
    go_enter Try.func73, Try.ntmps73
    go_wp2_with (first
      | ((with_reducible refine aw_box (dst := some 2) (t := 98) (v := .agg #[.int .i64 l, .int .i64 e, .int .i64 i, .int .i64 c, .slice bo len cap]) rfl ?_); intro w1 hb1 hk1 hz1)
      | ((with_reducible refine aw_box (dst := some 3) (t := 98) (v := .agg #[.int .i64 l', .int .i64 e', .int .i64 i', .int .i64 c', vn]) rfl ?_); intro w2 hb2 hk2 hz2; have c0 : w2.cell? ⟨w.heap.size, 0, none⟩ = some (.int .i64 l) := (hk2.blk hb1 (fun h => h)).cell 0; have c1 : w2.cell? ⟨w.heap.size, 1, none⟩ = some (.int .i64 e) := (hk2.blk hb1 (fun h => h)).cell 1; have c2 : w2.cell? ⟨w.heap.size, 2, none⟩ = some (.int .i64 i) := (hk2.blk hb1 (fun h => h)).cell 2; have c3 : w2.cell? ⟨w.heap.size, 3, none⟩ = some (.int .i64 c) := (hk2.blk hb1 (fun h => h)).cell 3; have c4 : w2.cell? ⟨w.heap.size, 4, none⟩ = some (.slice bo len cap) := (hk2.blk hb1 (fun h => h)).cell 4; have d0 : w2.cell? ⟨w1.heap.size, 0, none⟩ = some (.int .i64 l') := hb2.cell 0; have d1 : w2.cell? ⟨w1.heap.size, 1, none⟩ = some (.int .i64 e') := hb2.cell 1; have d2 : w2.cell? ⟨w1.heap.size, 2, none⟩ = some (.int .i64 i') := hb2.cell 2; have d3 : w2.cell? ⟨w1.heap.size, 3, none⟩ = some (.int .i64 c') := hb2.cell 3; have hkk := hide (hk1.trans hk2 (fun _ _ h => h)); clear hb1 hb2 hk1 hk2 hz1 hz2)
      | fail)
    go_ret
    refine ⟨?_, hkk.out⟩
    rw [← Hb.out]
    have h1 := H1.out
    have fin : (comesP l e i c len l' e' i' c') = false := by
      unfold comesP
      simp
      try omega
    rw [fin]
    try simp
    try omega
theorem comes_at (w : World) (f n : Fr) (vb vn : Value) (hs : ∃ bo cap, vb = .slice bo f.B.length cap) (hc : 0 ≤ f.ct ∧ f.ct ≤ 65535) : Calls Try.prog 73 #[frAgg f vb, frAgg n vn] w fun e w' => e = .returned (.bool (comesN f n)) ∧ Kept (fun _ => False) w w' := by
  obtain ⟨bo, cap, rfl⟩ := hs
  exact comesP_at w f.lsn f.ep f.ix f.ct bo f.B.length cap n.lsn n.ep n.ix n.ct vn hc _ rfl
end Go.Proofs.Ytbbhchmdggfncaa
