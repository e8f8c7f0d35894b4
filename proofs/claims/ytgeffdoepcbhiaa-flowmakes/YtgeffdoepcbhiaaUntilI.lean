/-
  Until, for elements of one type.
-/
import Derived.Test.YtgeffdoepcbhiaaKeepI
namespace Go.Proofs.Ytgeffdoepcbhiaa
open Go.RowKit Go.Shelf
set_option linter.unusedSimpArgs false
set_option linter.unusedVariables false
attribute [local go_sem] Oper.semAt_some

/-- A function that may be nil: then nothing is so. -/
def FnNI {α : Type} (fv : Value) (E : EncR α) (p : α → Bool) (Xf : NSet) (W : World) : Prop := (fv = .nilFunc ∧ ∀ x, p x = false) ∨ (IsFn fv ∧ FnOk Try.prog fv E Value.bool p Xf W)
theorem FnNI.kept {α : Type} {fv : Value} {E : EncR α} {p : α → Bool} {Xf S : NSet} {W W' : World} (h : FnNI fv E p Xf W) (hk : Kept S W W') (hS : ∀ k, S k → ¬ Xf k) : FnNI fv E p Xf W' := h.imp id (fun h => ⟨h.1, h.2.kept hk hS⟩)
/-- What holds while Until's sequence goes through the one that it is made of. -/
def UntilJI {α : Type} (p : α → Bool) (E : EncR α) (Xf : NSet) (fv tv : Value) (bi bt : Nat) (I : List α → NSet → World → Prop) (pre : List α) (F : NSet) (W : World) : Prop :=
  ((I pre F W ∧ Blk W bi [fv] 24 ∧ ¬ F bi) ∧ Blk W bt [tv] 24 ∧ ¬ F bt) ∧ FnNI fv E p Xf W ∧ ∀ k, Xf k → ¬ F k
def UntilAI {α : Type} (p : α → Bool) (J : List α → NSet → World → Prop) (pre : List α) (F : NSet) (W : World) : Prop := J pre F W ∧ ∀ x ∈ pre, p x = false
/-- It was told to end, or one was so. -/
def UntilXI {α : Type} (p : α → Bool) (J Jx : List α → NSet → World → Prop) (pre : List α) (F : NSet) (W : World) : Prop := (Jx pre F W ∧ ∀ x ∈ pre, p x = false) ∨ (∃ q x, pre = q ++ [x] ∧ p x = true ∧ J q F W ∧ ∀ x ∈ q, p x = false)
theorem UntilAI.stab {α : Type} {p : α → Bool} {J : List α → NSet → World → Prop} {B : Nat} {C : NSet} (h : ∀ pre, Stab B C (J pre)) (pre : List α) : Stab B C (UntilAI p J pre) :=
  ⟨fun F W hi => (h pre).lt F W hi.1, fun F W W' S hi hk h1 h2 => ⟨(h pre).kept F W W' S hi.1 hk h1 h2, hi.2⟩⟩
theorem UntilXI.stab {α : Type} {p : α → Bool} {J Jx : List α → NSet → World → Prop} {B : Nat} {C : NSet} (h : ∀ pre, Stab B C (J pre)) (hx : ∀ pre, Stab B C (Jx pre)) (pre : List α) : Stab B C (UntilXI p J Jx pre) := by
  refine ⟨?_, ?_⟩
  · rintro F W (hi | ⟨q, x, rfl, _, hi, _⟩)
    · exact (hx pre).lt F W hi.1
    · exact (h q).lt F W hi
  · rintro F W W' S (hi | ⟨q, x, rfl, hp, hi, ha⟩) hk h1 h2
    · exact .inl ⟨(hx pre).kept F W W' S hi.1 hk h1 h2, hi.2⟩
    · exact .inr ⟨q, x, rfl, hp, (h q).kept F W W' S hi hk h1 h2, ha⟩
theorem UntilJI.stab {α : Type} {p : α → Bool} {E : EncR α} {Xf : NSet} {fv tv : Value} {bi bt : Nat} {I : List α → NSet → World → Prop} {B B' : Nat} {C : NSet} (h : ∀ pre, Stab B C (I pre)) (hB : B ≤ B') (hi : bi < B' ∧ ¬ C bi) (ht : bt < B' ∧ ¬ C bt) (hX : ∀ k, Xf k → k < B' ∧ ¬ C k) (pre : List α) : Stab B' C (UntilJI p E Xf fv tv bi bt I pre) := by
  have h1 := ((h pre).blk (L := [fv]) (t := 24) hB hi.1 hi.2).blk (L := [tv]) (t := 24) (Nat.le_refl _) ht.1 ht.2
  exact ⟨fun F W hi => h1.lt F W hi.1, fun F W W' S hi hk h2 h3 => ⟨h1.kept F W W' S hi.1 hk h2 h3, hi.2.1.kept hk (fun k hs hx => (hX k hx).2 (h3 k hs (hX k hx).1)), hi.2.2⟩⟩
theorem take_untilI {α : Type} {p : α → Bool} {pre : List α} (h : ∀ x ∈ pre, p x = false) (post : List α) : (pre ++ post).takeWhile (fun x => !p x) = pre ++ post.takeWhile (fun x => !p x) := by
  induction pre with
  | nil => rfl
  | cons a pre ih =>
    rw [List.cons_append, List.takeWhile_cons_of_pos (by simp [h a (by simp)]), ih (fun x hx => h x (by simp [hx])), List.cons_append]

set_option maxRecDepth 100000 in
set_option maxHeartbeats 1000000 in
theorem untilwI {α : Type} {p : α → Bool} {E : EncR α} {xs : List α} {B : Nat} {F0 C X Xf : NSet} {fv tv : Value} {J Jx : List α → NSet → World → Prop} (htv : IsFn tv) (hE : EOk X E) (hSJ : ∀ pre, Stab B C (J pre)) (ht : Takes Try.prog E (xs.takeWhile (fun x => !p x)) B F0 tv J Jx)
    {bi bt B' : Nat} (hB : B ≤ B') (hbi : bi < B') (hbt : bt < B') (hXf : ∀ k, Xf k → k < B') :
    Takes Try.prog E xs B' F0 (.func (.func 53) #[] #[.pointer (some ⟨bi, 0, none⟩), .pointer (some ⟨bt, 0, none⟩)]) (UntilJI p E Xf fv tv bi bt (UntilAI p J)) (UntilJI p E Xf fv tv bi bt (UntilXI p J Jx)) := by
  rintro pre x post F G v W hxs ⟨⟨⟨⟨hJ, hall⟩, hBi, hni⟩, hBt, hnt⟩, hfn, hnX⟩ hBW hF hEx hG
  have hGi : ¬ G bi := fun h => by have := (hG bi h).2; omega
  have hGt : ¬ G bt := fun h => by have := (hG bt h).2; omega
  have hGX : ∀ k, Xf k → ¬ G k := fun k h1 h2 => by have := (hG k h2).2; have := hXf k h1; omega
  have c1 : W.cell? ⟨bi, 0, none⟩ = some fv := hBi.cell 0
  have hlti := hBi.lt
  have hltt := hBt.lt
  have HBt := hide hBt
  have HBi := hide hBi
  have HJ := hide hJ
  have HFn := hide hfn
  have HEx := hide hEx
  have HT := hide ht
  have HSJ := hide hSJ
  have HG := hide hG
  have HF := hide hF
  have HE := hide hE
  have Hxs := hide hxs
  have Hall := hide hall
  have Htv := hide htv
  obtain ⟨tf, tl, rfl⟩ := htv
  -- the taker, in a world in which nothing has changed
  have Hyc : Hid (p x = false → ∀ w2, Kept (fun _ => False) W w2 → YC Try.prog (.func tf #[] tl) #[v] w2 (fun e w3 => ∃ b, e = .returned (.bool b) ∧ Handed (UntilJI p E Xf fv (.func tf #[] tl) bi bt (UntilAI p J)) (UntilJI p E Xf fv (.func tf #[] tl) bi bt (UntilXI p J Jx)) (pre ++ [x]) F G W (.returned (.bool b)) w3)) := hide (fun hp w2 hk2 => by
    have hs2 := hk2.size
    have hxs2 : xs.takeWhile (fun x => !p x) = pre ++ x :: post.takeWhile (fun x => !p x) := by rw [hxs, take_untilI hall, List.takeWhile_cons_of_pos (by simp [hp])]
    refine (ht pre x _ F G v w2 hxs2 ((hSJ _).none hJ hk2) (by omega) (fun k hk => (hF k hk).elim .inl (fun h => .inr (by omega))) (hE _ _ _ _ _ _ hEx hk2 (fun _ h => h.elim)) (fun k hk => by have := hG k hk; exact ⟨this.1, by omega, by omega⟩)).mono ?_
    rintro e w3 ⟨F', hcase, hk3, hF'⟩
    have hn' : ∀ j, j < W.heap.size → ¬ F j → ¬ G j → ¬ F' j := fun j hj h1 h2 h3 => by
      rcases hF' j h3 with h | h | h
      · exact h1 h
      · exact h2 h
      · omega
    have hgen : ∀ I : List α → NSet → World → Prop, I (pre ++ [x]) F' w3 → UntilJI p E Xf fv (.func tf #[] tl) bi bt I (pre ++ [x]) F' w3 := fun I hI =>
      ⟨⟨⟨hI, hk3.blk (hk2.blk hBi (fun h => h)) (fun h => h.elim hni hGi), hn' bi hlti hni hGi⟩, hk3.blk (hk2.blk hBt (fun h => h)) (fun h => h.elim hnt hGt), hn' bt hltt hnt hGt⟩, (hfn.kept hk2 (fun _ h => h.elim)).kept hk3 (fun k h1 h2 => h1.elim (hnX k h2) (hGX k h2)), fun k h => hn' k (by have := hXf k h; omega) (hnX k h) (hGX k h)⟩
    have hall2 : ∀ y ∈ pre ++ [x], p y = false := fun y hy => by
      rcases List.mem_append.1 hy with h | h
      · exact hall y h
      · rw [List.mem_singleton.1 h]; exact hp
    have hk03 : Kept (fun k => F k ∨ G k) W w3 := (hk2.mono (T := fun k => F k ∨ G k) (fun _ _ h => h.elim)).trans hk3 (fun _ _ h => h)
    have hF3 : ∀ k, F' k → F k ∨ G k ∨ W.heap.size ≤ k := fun k h => (hF' k h).elim .inl (fun h => h.elim (fun h => .inr (.inl h)) (fun h => .inr (.inr (by omega))))
    rcases hcase with ⟨rfl, hJ3⟩ | ⟨rfl, hJ3⟩
    · exact ⟨true, rfl, F', .inl ⟨rfl, hgen _ ⟨hJ3, hall2⟩⟩, hk03, hF3⟩
    · exact ⟨false, rfl, F', .inr ⟨rfl, hgen _ (.inl ⟨hJ3, hall2⟩)⟩, hk03, hF3⟩)
  have Hso : Hid (p x = true → ∀ w2, Kept (fun _ => False) W w2 → Handed (UntilJI p E Xf fv (.func tf #[] tl) bi bt (UntilAI p J)) (UntilJI p E Xf fv (.func tf #[] tl) bi bt (UntilXI p J Jx)) (pre ++ [x]) F G W (.returned (.bool false)) w2) := hide (fun hp w2 hk2 =>
    ⟨F, .inr ⟨rfl, ⟨⟨.inr ⟨pre, x, rfl, hp, (hSJ _).none hJ hk2, hall⟩, hk2.blk hBi (fun h => h), hni⟩, hk2.blk hBt (fun h => h), hnt⟩, hfn.kept hk2 (fun _ h => h.elim), hnX⟩, hk2.mono (fun _ _ h => h.elim), fun k h => .inl h⟩)
  clear hBt hBi hJ hEx ht hSJ hG hF hE hxs hall
  refine .inl ⟨_, _, rfl, enters_of Try.func53 (by kernel_rfl) rfl, ?_⟩
  show Calls Try.prog 53 #[v, .pointer (some ⟨bi, 0, none⟩), .pointer (some ⟨bt, 0, none⟩)] W _
  refine (callsIn_wide (n := 4)).1 (callsIn_of_wp Try.func53 rfl trivial ?_ rfl)
  simp only [Try.ntmps53, List.size_toArray, List.length_cons, List.length_nil, Nat.reduceAdd, Nat.reduceSub, Array.replicate_succ, Array.replicate_zero, List.push_toArray, List.append_toArray, List.nil_append, List.cons_append]
  rcases hfn with ⟨rfl, hno⟩ | ⟨⟨ff, fl, rfl⟩, hfn⟩
  · have Hyc2 := hide (Hyc.out (hno x) W (Kept.refl _ _))
    have c2 : W.cell? ⟨bt, 0, none⟩ = some (.func tf #[] tl) := HBt.out.cell 0
    have hq := eqynI W
    clear hno Hyc Hso
    gi_wp2_with (first
      | (with_reducible refine stopi_val1 ?_)
      | ((with_reducible refine And.intro ?_ ?_); · exact fun _ _ => trivial))
    refine hide ?_
    refine ai_skip (by rfl) ?_
    try simp only [put_lit, List.set_cons_succ, List.set_cons_zero]
    gi_wp2_with (first
      | (with_reducible refine stopi_val1 ?_)
      | ((with_reducible refine And.intro ?_ ?_); · exact fun _ _ => trivial))
    refine hide ?_
    try simp only [put_lit, List.set_cons_succ, List.set_cons_zero]
    refine ai_yc1 (yv := .func tf #[] tl) (vy := v) rfl rfl rfl Hyc2.out ?_
    rintro e w3 ⟨b, rfl, hfin⟩
    have Hfin := hide hfin
    clear hfin c1 c2 hq
    refine ⟨_, rfl, ?_⟩
    try simp only [put_lit, List.set_cons_succ, List.set_cons_zero]
    gi_wp2
    go_ret
    exact Hfin.out
  · have Hyf := hide (hfn.at HEx.out)
    have hq := eqyfI ff fl W
    clear hfn
    gi_wp2_with (first
      | (with_reducible refine stopi_val1 ?_)
      | ((with_reducible refine And.intro ?_ ?_); · exact fun _ _ => trivial))
    refine hide ?_
    try simp only [put_lit, List.set_cons_succ, List.set_cons_zero]
    refine ai_yc1 (yv := .func ff #[] fl) (vy := v) rfl rfl rfl Hyf.out ?_
    rintro e w2 ⟨rfl, hk2⟩
    refine ⟨_, rfl, ?_⟩
    cases hp : p x with
    | true =>
      have Hfin := hide (Hso.out hp w2 hk2)
      clear hp hk2 c1 hq Hyc Hso
      try simp only [put_lit, List.set_cons_succ, List.set_cons_zero]
      gi_wp2_with ((with_reducible refine And.intro ?_ ?_); · exact fun _ _ => trivial)
      go_ret
      exact Hfin.out
    | false =>
      have Hyc2 := hide (Hyc.out hp w2 hk2)
      have c2 : w2.cell? ⟨bt, 0, none⟩ = some (.func tf #[] tl) := (hk2.blk HBt.out (fun h => h)).cell 0
      clear hp hk2 c1 hq Hyc Hso
      try simp only [put_lit, List.set_cons_succ, List.set_cons_zero]
      gi_wp2_with (with_reducible refine stopi_val1 ?_)
      refine hide ?_
      try simp only [put_lit, List.set_cons_succ, List.set_cons_zero]
      refine ai_yc1 (yv := .func tf #[] tl) (vy := v) rfl rfl rfl Hyc2.out ?_
      rintro e w3 ⟨b, rfl, hfin⟩
      have Hfin := hide hfin
      clear hfin c2
      refine ⟨_, rfl, ?_⟩
      try simp only [put_lit, List.set_cons_succ, List.set_cons_zero]
      gi_wp2
      go_ret
      exact Hfin.out
/-- What was asked of the sequence that Until's is made of. -/
def UntilPI {α : Type} (p : α → Bool) (xs : List α) (Post : Bool → List α → World → Prop) (b : Bool) (pre : List α) (W : World) : Prop :=
  (b = true ∧ pre = xs ∧ Post true pre W) ∨ (b = false ∧ Post false pre W) ∨ (b = true ∧ ∃ x post, xs = pre ++ x :: post ∧ p x = true ∧ Post false (pre ++ [x]) W)

set_option maxRecDepth 100000 in
set_option maxHeartbeats 1000000 in
theorem until1_atI {α : Type} {p : α → Bool} {sv fv : Value} {E : EncR α} {xs : List α} {X C Xf : NSet} {Post : Bool → List α → World → Prop} {W : World} {bs bi : Nat} (hs : SeqOk Try.prog sv E xs X C Post W) (hf : FnNI fv E p Xf W) (hXf : ∀ k, Xf k → k < W.heap.size ∧ ¬ C k)
    (hbs : Blk W bs [sv] 27) (hbi : Blk W bi [fv] 24) (hcb : ¬ C bs ∧ ¬ C bi) :
    FSeqAt Try.prog (.func (.func 52) #[] #[.pointer (some ⟨bs, 0, none⟩), .pointer (some ⟨bi, 0, none⟩)]) E (xs.takeWhile (fun x => !p x)) (fun k => X k ∨ Xf k ∨ k = bs ∨ k = bi) C (UntilPI p xs Post) W := by
  intro tv J Jx F0 htv hJ hJx hF0 ht h0
  have hlts := hbs.lt
  have hlti := hbi.lt
  have hlt0 := (hJ []).lt _ _ h0
  have Hrun : Hid (∀ w1, Kept (fun _ => False) W w1 → w1.heap.size = W.heap.size + 1 → Blk w1 W.heap.size [tv] 24 → Calls Try.prog 38 #[sv, .func (.func 53) #[] #[.pointer (some ⟨bi, 0, none⟩), .pointer (some ⟨W.heap.size, 0, none⟩)]] w1 fun e W' => (∃ u, e = .returned u) ∧ FEnded J Jx (xs.takeWhile (fun x => !p x)) C (UntilPI p xs Post) F0 W (.returned (.tuple #[])) W') := hide (fun w1 hk1 hz1 hb1 => by
    have hCt : ¬ C W.heap.size := fun h => by have := hs.lt _ (.inr h); omega
    refine (each_atI (hs.kept hk1 (fun _ h => h.elim)) (tv := .func (.func 53) #[] #[.pointer (some ⟨bi, 0, none⟩), .pointer (some ⟨W.heap.size, 0, none⟩)]) (J := UntilJI p E Xf fv tv bi W.heap.size (UntilAI p J)) (Jx := UntilJI p E Xf fv tv bi W.heap.size (UntilXI p J Jx)) (F0 := F0) ⟨_, _, rfl⟩
      (UntilJI.stab (UntilAI.stab hJ) (by omega) ⟨by omega, hcb.2⟩ ⟨by omega, hCt⟩ (fun k h => ⟨by have := (hXf k h).1; omega, (hXf k h).2⟩)) (UntilJI.stab (UntilXI.stab hJ hJx) (by omega) ⟨by omega, hcb.2⟩ ⟨by omega, hCt⟩ (fun k h => ⟨by have := (hXf k h).1; omega, (hXf k h).2⟩))
      (fun k h => ⟨fun hx => (hF0 k h).1 (.inl hx), (hF0 k h).2⟩) (untilwI htv hs.enc hJ ht (by omega) (by omega) (by omega) (fun k h => by have := (hXf k h).1; omega))
      ⟨⟨⟨⟨(hJ []).none h0 hk1, fun x h => by simp at h⟩, hk1.blk hbi (fun h => h), fun h => (hF0 _ h).1 (.inr (.inr (.inr rfl)))⟩, hb1, fun h => by have := hlt0 _ h; omega⟩, hf.kept hk1 (fun _ h => h.elim), fun k h1 h2 => (hF0 k h2).1 (.inr (.inl h1))⟩).mono ?_
    rintro e W' ⟨b, rfl, hkW, hcase⟩
    have hkF : Kept (fun k => F0 k ∨ C k) W W' := (hk1.mono (T := fun k => F0 k ∨ C k) (fun _ _ h => h.elim)).trans hkW (fun _ _ h => h)
    have hFo : ∀ (Fi : NSet), (∀ k, Fi k → F0 k ∨ w1.heap.size ≤ k) → ∀ k, Fi k → F0 k ∨ W.heap.size ≤ k := fun Fi h k hk => (h k hk).elim .inl (fun h => .inr (by omega))
    refine ⟨⟨_, rfl⟩, ⟨_, rfl⟩, ?_⟩
    rcases hcase with ⟨rfl, F', ⟨⟨⟨⟨h, ha⟩, _⟩, _⟩, _⟩, hF', hP⟩ | ⟨rfl, pre, F', ⟨post, hpre⟩, ⟨⟨⟨h, _⟩, _⟩, _⟩, hF', hP⟩
    · have he : xs.takeWhile (fun x => !p x) = xs := by have := take_untilI ha []; simpa using this
      refine ⟨true, hkF, .inl ⟨rfl, F', ?_, hFo F' hF', .inl ⟨rfl, he, ?_⟩⟩⟩ <;> rw [he]
      · exact h
      · exact hP
    · rcases h with ⟨h, ha⟩ | ⟨q, x, rfl, hp, h, ha⟩
      · refine ⟨false, hkF, .inr ⟨rfl, pre, F', ⟨post.takeWhile (fun x => !p x), ?_⟩, h, hFo F' hF', .inr (.inl ⟨rfl, hP⟩)⟩⟩
        rw [hpre, take_untilI ha]
      · have hpre2 : xs = q ++ x :: post := by rw [hpre]; simp
        have he : xs.takeWhile (fun x => !p x) = q := by rw [hpre2, take_untilI ha, List.takeWhile_cons_of_neg (by simp [hp])]; simp
        refine ⟨true, hkF, .inl ⟨rfl, F', ?_, hFo F' hF', .inr (.inr ⟨rfl, x, post, ?_, hp, ?_⟩)⟩⟩ <;> rw [he]
        · exact h
        · exact hpre2
        · exact hP)
  have c0 : W.cell? ⟨bs, 0, none⟩ = some sv := hbs.cell 0
  have HBs := hide hbs
  obtain ⟨tf, tl, rfl⟩ := htv
  clear hs hf hXf hbs hbi hcb hJ hJx hF0 ht h0 hlt0 hlti
  refine .inl ⟨_, _, rfl, enters_of Try.func52 (by kernel_rfl) rfl, ?_⟩
  show Calls Try.prog 52 #[.func tf #[] tl, .pointer (some ⟨bs, 0, none⟩), .pointer (some ⟨bi, 0, none⟩)] W _
  go_enter Try.func52, Try.ntmps52
  go_wp2_with (first
    | ((with_reducible refine aw_box (t := 24) (v := .func tf #[] tl) rfl ?_); intro w1 hb1 hk1 hz1; have c1 : w1.cell? ⟨bs, 0, none⟩ = some sv := (hk1.blk HBs.out (fun h => h)).cell 0; have Hr1 := hide (Hrun.out w1 hk1 hz1 hb1); clear hb1 hz1 c0)
    | fail)
  refine Hr1.out.mono ?_
  rintro e w2 ⟨⟨u, rfl⟩, ⟨u2, hu2⟩, hend⟩
  have HE := hide hend
  clear hend
  go_wp2
  go_end0
  exact ⟨⟨_, rfl⟩, HE.out⟩
theorem until_okI {α : Type} {p : α → Bool} {sv fv : Value} {E : EncR α} {xs : List α} {X C Xf : NSet} {Post : Bool → List α → World → Prop} {W : World} {bs bi : Nat} (hs : SeqOk Try.prog sv E xs X C Post W) (hf : FnNI fv E p Xf W) (hXf : ∀ k, Xf k → k < W.heap.size ∧ ¬ C k)
    (hbs : Blk W bs [sv] 27) (hbi : Blk W bi [fv] 24) (hcb : ¬ C bs ∧ ¬ C bi) :
    SeqOk Try.prog (.func (.func 52) #[] #[.pointer (some ⟨bs, 0, none⟩), .pointer (some ⟨bi, 0, none⟩)]) E (xs.takeWhile (fun x => !p x)) (fun k => X k ∨ Xf k ∨ k = bs ∨ k = bi) C (UntilPI p xs Post) W := by
  refine ⟨.inl ⟨_, _, rfl⟩, ?_, ?_, ?_, ?_, ?_⟩
  · rintro k ((h | h | h | h) | h)
    · exact hs.lt k (.inl h)
    · exact (hXf k h).1
    · rw [h]; exact hbs.lt
    · rw [h]; exact hbi.lt
    · exact hs.lt k (.inr h)
  · rintro k (h | h | h | h)
    · exact hs.apart k h
    · exact (hXf k h).2
    · rw [h]; exact hcb.1
    · rw [h]; exact hcb.2
  · intro x v G W W' S h hk hS
    exact hs.enc x v G W W' S h hk (fun k h => ⟨(hS k h).1, fun hx => (hS k h).2 (.inl hx)⟩)
  · rintro b pre W W' S (⟨h1, h2, h3⟩ | ⟨h1, h2⟩ | ⟨h1, x, post, h2, h3, h4⟩) hk hS
    · exact .inl ⟨h1, h2, hs.post _ _ _ _ _ h3 hk hS⟩
    · exact .inr (.inl ⟨h1, hs.post _ _ _ _ _ h2 hk hS⟩)
    · exact .inr (.inr ⟨h1, x, post, h2, h3, hs.post _ _ _ _ _ h4 hk hS⟩)
  · intro _ W' S hk hS
    exact until1_atI (hs.kept hk (fun k h => ⟨fun hx => (hS k h).1 (.inl hx), (hS k h).2⟩)) (hf.kept hk (fun k h hx => (hS k h).1 (.inr (.inl hx)))) (fun k h => ⟨Nat.lt_of_lt_of_le (hXf k h).1 hk.size, (hXf k h).2⟩)
      (hk.blk hbs (fun h => (hS _ h).1 (.inr (.inr (.inl rfl))))) (hk.blk hbi (fun h => (hS _ h).1 (.inr (.inr (.inr rfl))))) hcb
set_option maxHeartbeats 1000000 in
theorem until_atI (W : World) (sv fv : Value) (hsv : sv.cells = #[sv]) (hfv : fv.cells = #[fv]) :
    Calls Try.prog 20 #[sv, fv] W fun e W' => ∃ bs bi, e = .returned (.func (.func 52) #[] #[.pointer (some ⟨bs, 0, none⟩), .pointer (some ⟨bi, 0, none⟩)]) ∧ Blk W' bs [sv] 27 ∧ Blk W' bi [fv] 24 ∧ Kept (fun _ => False) W W' ∧ W.heap.size ≤ bs ∧ W.heap.size ≤ bi := by
  have Hsv := hide hsv
  have Hfv := hide hfv
  clear hsv hfv
  go_enter Try.func20, Try.ntmps20
  go_wp2_with (first
    | ((with_reducible refine aw_box (t := 27) (v := sv) rfl ?_); intro w1 hb1 hk1 hz1; have Hz1 := hide hz1; have Hb1 := hide hb1; have Hk1 := hide hk1; clear hz1 hb1 hk1)
    | ((with_reducible refine aw_box (t := 24) (v := fv) rfl ?_); intro w2 hb2 hk2 hz2; have Hz2 := hide hz2; have Hb2 := hide hb2; have Hk2 := hide hk2; clear hz2 hb2 hk2))
  go_ret
  have hz1 := Hz1.out
  have hb1 := Hb1.out
  have hb2 := Hb2.out
  rw [Hsv.out] at hb1
  rw [Hfv.out] at hb2
  exact ⟨_, _, rfl, Hk2.out.blk hb1 (fun h => h), hb2, Hk1.out.trans Hk2.out (fun _ _ h => h), Nat.le_refl _, by omega⟩
end Go.Proofs.Ytgeffdoepcbhiaa
