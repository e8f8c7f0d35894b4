/-
  Keep, for elements of one type.
-/
import Derived.Test.YtgeffdoepcbhiaaOfI
namespace Go.Proofs.Ytgeffdoepcbhiaa
open Go.RowKit Go.Shelf
set_option linter.unusedSimpArgs false
set_option linter.unusedVariables false
attribute [local go_sem] Oper.semAt_some

/-- What holds while Keep's sequence goes through the one that it is made of. -/
def KeepJI {α : Type} (p : α → Bool) (E : EncR α) (Xf : NSet) (fv tv : Value) (bi bt : Nat) (J : List α → NSet → World → Prop) (pre : List α) (F : NSet) (W : World) : Prop :=
  ((J (pre.filter p) F W ∧ Blk W bi [fv] 24 ∧ ¬ F bi) ∧ Blk W bt [tv] 24 ∧ ¬ F bt) ∧ FnOk Try.prog fv E Value.bool p Xf W ∧ ∀ k, Xf k → ¬ F k
theorem KeepJI.stab {α : Type} {p : α → Bool} {E : EncR α} {Xf : NSet} {fv tv : Value} {bi bt : Nat} {J : List α → NSet → World → Prop} {B B' : Nat} {C : NSet} (h : ∀ pre, Stab B C (J pre)) (hB : B ≤ B') (hi : bi < B' ∧ ¬ C bi) (ht : bt < B' ∧ ¬ C bt) (hX : ∀ k, Xf k → k < B' ∧ ¬ C k) (pre : List α) : Stab B' C (KeepJI p E Xf fv tv bi bt J pre) :=
  (((h _).blk hB hi.1 hi.2).blk (Nat.le_refl _) ht.1 ht.2).fnok (Nat.le_refl _) hX
def LastPI {α : Type} (p : α → Bool) (pre : List α) : Prop := ∃ q x, pre = q ++ [x] ∧ p x = true
theorem Stab.andI {B : Nat} {C : NSet} {I : NSet → World → Prop} {p : Prop} (h : Stab B C I) : Stab B C (fun F W => I F W ∧ p) := ⟨fun F W hi => h.lt F W hi.1, fun F W W' S hi hk h1 h2 => ⟨h.kept F W W' S hi.1 hk h1 h2, hi.2⟩⟩

set_option maxRecDepth 100000 in
set_option maxHeartbeats 1000000 in
theorem keepwI {α : Type} {p : α → Bool} {E : EncR α} {xs : List α} {B : Nat} {F0 C X Xf : NSet} {fv tv : Value} {J Jx : List α → NSet → World → Prop} (htv : IsFn tv) (hfv : IsFn fv) (hE : EOk X E) (hSJ : ∀ pre, Stab B C (J pre)) (ht : Takes Try.prog E (xs.filter p) B F0 tv J Jx)
    {bi bt B' : Nat} (hB : B ≤ B') (hbi : bi < B') (hbt : bt < B') (hXf : ∀ k, Xf k → k < B') :
    Takes Try.prog E xs B' F0 (.func (.func 41) #[] #[.pointer (some ⟨bi, 0, none⟩), .pointer (some ⟨bt, 0, none⟩)]) (KeepJI p E Xf fv tv bi bt J) (fun pre F W => KeepJI p E Xf fv tv bi bt Jx pre F W ∧ LastPI p pre) := by
  rintro pre x post F G v W hxs ⟨⟨⟨hJ, hBi, hni⟩, hBt, hnt⟩, hfn, hnX⟩ hBW hF hEx hG
  have hGi : ¬ G bi := fun h => by have := (hG bi h).2; omega
  have hGt : ¬ G bt := fun h => by have := (hG bt h).2; omega
  have hGX : ∀ k, Xf k → ¬ G k := fun k h1 h2 => by have := (hG k h2).2; have := hXf k h1; omega
  have c1 : W.cell? ⟨bi, 0, none⟩ = some fv := hBi.cell 0
  have Hyf := hide (hfn.at hEx)
  have hlti := hBi.lt
  have hltt := hBt.lt
  have HBt := hide hBt
  have HBi := hide hBi
  have HJ := hide hJ
  have HFn := hide hfn
  have HEx := hide hEx
  have HT := hide ht
  have HSJ := hide hSJ
  have HG := hide hG
  have HF := hide hF
  have HE := hide hE
  have Hxs := hide hxs
  have Htv := hide htv
  obtain ⟨ff, fl, rfl⟩ := hfv
  obtain ⟨tf, tl, rfl⟩ := htv
  clear hBt hBi hJ hfn hEx ht hSJ hG hF hE hxs
  refine .inl ⟨_, _, rfl, enters_of Try.func41 (by kernel_rfl) rfl, ?_⟩
  show Calls Try.prog 41 #[v, .pointer (some ⟨bi, 0, none⟩), .pointer (some ⟨bt, 0, none⟩)] W _
  refine (callsIn_wide (n := 4)).1 (callsIn_of_wp Try.func41 rfl trivial ?_ rfl)
  simp only [Try.ntmps41, List.size_toArray, List.length_cons, List.length_nil, Nat.reduceAdd, Nat.reduceSub, Array.replicate_succ, Array.replicate_zero, List.push_toArray, List.append_toArray, List.nil_append, List.cons_append]
  gi_wp2_with (with_reducible refine stopi_val1 ?_)
  refine hide ?_
  try simp only [put_lit, List.set_cons_succ, List.set_cons_zero]
  refine ai_yc1 (yv := .func ff #[] fl) (vy := v) rfl rfl rfl Hyf.out ?_
  rintro e w2 ⟨rfl, hk2⟩
  refine ⟨_, rfl, ?_⟩
  have hJ2 := (HSJ.out _).none HJ.out hk2
  have hBi2 := hk2.blk HBi.out (fun h => h)
  have hBt2 := hk2.blk HBt.out (fun h => h)
  have hfn2 := HFn.out.kept hk2 (fun _ h => h.elim)
  cases hp : p x with
  | false =>
    have Hfin : Hid (Handed (KeepJI p E Xf (.func ff #[] fl) (.func tf #[] tl) bi bt J) (fun pre F W => KeepJI p E Xf (.func ff #[] fl) (.func tf #[] tl) bi bt Jx pre F W ∧ LastPI p pre) (pre ++ [x]) F G W (.returned (.bool true)) w2) := hide ⟨F, .inl ⟨rfl, ⟨⟨by rw [List.filter_append, List.filter_cons_of_neg (by simp [hp]), List.filter_nil, List.append_nil]; exact hJ2, hBi2, hni⟩, hBt2, hnt⟩, hfn2, hnX⟩, hk2.mono (fun _ _ h => h.elim), fun k h => .inl h⟩
    clear hJ2 hBi2 hBt2 hfn2 c1 hp
    try simp only [put_lit, List.set_cons_succ, List.set_cons_zero]
    gi_wp2_with ((with_reducible refine And.intro ?_ ?_); · exact fun _ _ => trivial)
    go_ret
    exact Hfin.out
  | true =>
    have hxs2 : xs.filter p = pre.filter p ++ x :: post.filter p := by rw [Hxs.out, List.filter_append, List.filter_cons_of_pos hp]
    have hs2 := hk2.size
    have hyc := HT.out (pre.filter p) x (post.filter p) F G v w2 hxs2 hJ2 (by omega) (fun k hk => (HF.out k hk).elim .inl (fun h => .inr (by omega))) (HE.out _ _ _ _ _ _ HEx.out hk2 (fun _ h => h.elim)) (fun k hk => by have := HG.out k hk; exact ⟨this.1, by omega, by omega⟩)
    have Hyc := hide hyc
    have HBi2 := hide hBi2
    have HBt2 := hide hBt2
    have HFn2 := hide hfn2
    have c2 : w2.cell? ⟨bt, 0, none⟩ = some (.func tf #[] tl) := hBt2.cell 0
    have hfl : (pre ++ [x]).filter p = pre.filter p ++ [x] := by rw [List.filter_append, List.filter_cons_of_pos hp, List.filter_nil]
    have Hfl := hide hfl
    have Hp := hide hp
    clear hyc hJ2 hBi2 hBt2 hfn2 c1 hxs2 hfl hp
    try simp only [put_lit, List.set_cons_succ, List.set_cons_zero]
    gi_wp2_with (with_reducible refine stopi_val1 ?_)
    refine hide ?_
    try simp only [put_lit, List.set_cons_succ, List.set_cons_zero]
    refine ai_yc1 (yv := .func tf #[] tl) (vy := v) rfl rfl rfl Hyc.out ?_
    rintro e w3 ⟨F', hcase, hk3, hF'⟩
    have hn' : ∀ j, j < W.heap.size → ¬ F j → ¬ G j → ¬ F' j := fun j hj h1 h2 h3 => by
      rcases hF' j h3 with h | h | h
      · exact h1 h
      · exact h2 h
      · omega
    have Hgen : Hid (∀ J' : List α → NSet → World → Prop, J' (pre.filter p ++ [x]) F' w3 → KeepJI p E Xf (.func ff #[] fl) (.func tf #[] tl) bi bt J' (pre ++ [x]) F' w3) := hide (fun J' hJ' =>
      ⟨⟨⟨by rw [Hfl.out]; exact hJ', hk3.blk HBi2.out (fun h => h.elim hni hGi), hn' bi hlti hni hGi⟩, hk3.blk HBt2.out (fun h => h.elim hnt hGt), hn' bt hltt hnt hGt⟩, HFn2.out.kept hk3 (fun k h1 h2 => h1.elim (hnX k h2) (hGX k h2)), fun k h => hn' k (by have := hXf k h; omega) (hnX k h) (hGX k h)⟩)
    have Hk03 : Hid (Kept (fun k => F k ∨ G k) W w3) := hide ((hk2.mono (T := fun k => F k ∨ G k) (fun _ _ h => h.elim)).trans hk3 (fun _ _ h => h))
    have HF3 : Hid (∀ k, F' k → F k ∨ G k ∨ W.heap.size ≤ k) := hide (fun k h => (hF' k h).elim .inl (fun h => h.elim (fun h => .inr (.inl h)) (fun h => .inr (.inr (by omega)))))
    clear hn' hF' hk3 c2
    rcases hcase with ⟨rfl, hJ3⟩ | ⟨rfl, hJ3⟩
    · have Hfin : Hid (Handed (KeepJI p E Xf (.func ff #[] fl) (.func tf #[] tl) bi bt J) (fun pre F W => KeepJI p E Xf (.func ff #[] fl) (.func tf #[] tl) bi bt Jx pre F W ∧ LastPI p pre) (pre ++ [x]) F G W (.returned (.bool true)) w3) := hide ⟨F', .inl ⟨rfl, Hgen.out J hJ3⟩, Hk03.out, HF3.out⟩
      clear hJ3 Hgen Hk03 HF3
      refine ⟨_, rfl, ?_⟩
      try simp only [put_lit, List.set_cons_succ, List.set_cons_zero]
      gi_wp2
      go_ret
      exact Hfin.out
    · have Hfin : Hid (Handed (KeepJI p E Xf (.func ff #[] fl) (.func tf #[] tl) bi bt J) (fun pre F W => KeepJI p E Xf (.func ff #[] fl) (.func tf #[] tl) bi bt Jx pre F W ∧ LastPI p pre) (pre ++ [x]) F G W (.returned (.bool false)) w3) := hide ⟨F', .inr ⟨rfl, Hgen.out Jx hJ3, _, _, rfl, Hp.out⟩, Hk03.out, HF3.out⟩
      clear hJ3 Hgen Hk03 HF3
      refine ⟨_, rfl, ?_⟩
      try simp only [put_lit, List.set_cons_succ, List.set_cons_zero]
      gi_wp2
      go_ret
      exact Hfin.out
/-- What was asked of the sequence that Keep's is made of. -/
def KeepPI {α : Type} (p : α → Bool) (xs : List α) (Post : Bool → List α → World → Prop) (b : Bool) (pre : List α) (W : World) : Prop :=
  ∃ q, Post b q W ∧ q.filter p = pre ∧ (b = true → q = xs) ∧ (b = false → LastPI p q ∧ ∃ post, xs = q ++ post)

set_option maxRecDepth 100000 in
set_option maxHeartbeats 1000000 in
theorem keep1_atI {α : Type} {p : α → Bool} {sv fv : Value} {E : EncR α} {xs : List α} {X C Xf : NSet} {Post : Bool → List α → World → Prop} {W : World} {bs bi : Nat} (hs : SeqOk Try.prog sv E xs X C Post W) (hfv : IsFn fv) (hf : FnOk Try.prog fv E Value.bool p Xf W) (hXf : ∀ k, Xf k → k < W.heap.size ∧ ¬ C k)
    (hbs : Blk W bs [sv] 27) (hbi : Blk W bi [fv] 24) (hcb : ¬ C bs ∧ ¬ C bi) :
    FSeqAt Try.prog (.func (.func 40) #[] #[.pointer (some ⟨bs, 0, none⟩), .pointer (some ⟨bi, 0, none⟩)]) E (xs.filter p) (fun k => X k ∨ Xf k ∨ k = bs ∨ k = bi) C (KeepPI p xs Post) W := by
  intro tv J Jx F0 htv hJ hJx hF0 ht h0
  have hlts := hbs.lt
  have hlti := hbi.lt
  have hlt0 := (hJ []).lt _ _ h0
  have Hrun : Hid (∀ w1, Kept (fun _ => False) W w1 → w1.heap.size = W.heap.size + 1 → Blk w1 W.heap.size [tv] 24 → Calls Try.prog 38 #[sv, .func (.func 41) #[] #[.pointer (some ⟨bi, 0, none⟩), .pointer (some ⟨W.heap.size, 0, none⟩)]] w1 fun e W' => (∃ u, e = .returned u) ∧ FEnded J Jx (xs.filter p) C (KeepPI p xs Post) F0 W (.returned (.tuple #[])) W') := hide (fun w1 hk1 hz1 hb1 => by
    have hCt : ¬ C W.heap.size := fun h => by have := hs.lt _ (.inr h); omega
    refine (each_atI (hs.kept hk1 (fun _ h => h.elim)) (tv := .func (.func 41) #[] #[.pointer (some ⟨bi, 0, none⟩), .pointer (some ⟨W.heap.size, 0, none⟩)]) (J := KeepJI p E Xf fv tv bi W.heap.size J) (Jx := fun pre F W' => KeepJI p E Xf fv tv bi W.heap.size Jx pre F W' ∧ LastPI p pre) (F0 := F0) ⟨_, _, rfl⟩
      (KeepJI.stab hJ (by omega) ⟨by omega, hcb.2⟩ ⟨by omega, hCt⟩ (fun k h => ⟨by have := (hXf k h).1; omega, (hXf k h).2⟩)) (fun pre => (KeepJI.stab hJx (by omega) ⟨by omega, hcb.2⟩ ⟨by omega, hCt⟩ (fun k h => ⟨by have := (hXf k h).1; omega, (hXf k h).2⟩) pre).andI)
      (fun k h => ⟨fun hx => (hF0 k h).1 (.inl hx), (hF0 k h).2⟩) (keepwI htv hfv hs.enc hJ ht (by omega) (by omega) (by omega) (fun k h => by have := (hXf k h).1; omega))
      ⟨⟨⟨(hJ []).none h0 hk1, hk1.blk hbi (fun h => h), fun h => (hF0 _ h).1 (.inr (.inr (.inr rfl)))⟩, hb1, fun h => by have := hlt0 _ h; omega⟩, hf.kept hk1 (fun _ h => h.elim), fun k h1 h2 => (hF0 k h2).1 (.inr (.inl h1))⟩).mono ?_
    rintro e W' ⟨b, rfl, hkW, hcase⟩
    refine ⟨⟨_, rfl⟩, ⟨_, rfl⟩, b, (hk1.mono (T := fun k => F0 k ∨ C k) (fun _ _ h => h.elim)).trans hkW (fun _ _ h => h), ?_⟩
    rcases hcase with ⟨rfl, F', ⟨⟨⟨h, _⟩, _⟩, _⟩, hF', hP⟩ | ⟨rfl, pre, F', ⟨post, hpre⟩, ⟨⟨⟨⟨h, _⟩, _⟩, _⟩, hL⟩, hF', hP⟩
    · exact .inl ⟨rfl, F', h, fun k hk => (hF' k hk).elim .inl (fun h => .inr (by omega)), _, hP, rfl, fun _ => rfl, fun h => by cases h⟩
    · exact .inr ⟨rfl, _, F', ⟨post.filter p, by rw [hpre, List.filter_append]⟩, h, fun k hk => (hF' k hk).elim .inl (fun h => .inr (by omega)), _, hP, rfl, (fun h => by cases h), fun _ => ⟨hL, post, hpre⟩⟩)
  have c0 : W.cell? ⟨bs, 0, none⟩ = some sv := hbs.cell 0
  have HBs := hide hbs
  obtain ⟨tf, tl, rfl⟩ := htv
  clear hs hf hXf hbs hbi hcb hJ hJx hF0 ht h0 hlt0 hlti
  refine .inl ⟨_, _, rfl, enters_of Try.func40 (by kernel_rfl) rfl, ?_⟩
  show Calls Try.prog 40 #[.func tf #[] tl, .pointer (some ⟨bs, 0, none⟩), .pointer (some ⟨bi, 0, none⟩)] W _
  go_enter Try.func40, Try.ntmps40
  go_wp2_with (first
    | ((with_reducible refine aw_box (t := 24) (v := .func tf #[] tl) rfl ?_); intro w1 hb1 hk1 hz1; have c1 : w1.cell? ⟨bs, 0, none⟩ = some sv := (hk1.blk HBs.out (fun h => h)).cell 0; have Hr1 := hide (Hrun.out w1 hk1 hz1 hb1); clear hb1 hz1 c0)
    | fail)
  refine Hr1.out.mono ?_
  rintro e w2 ⟨⟨u, rfl⟩, ⟨u2, hu2⟩, hend⟩
  have HE := hide hend
  clear hend
  go_wp2
  go_end0
  exact ⟨⟨_, rfl⟩, HE.out⟩
theorem keep_okI {α : Type} {p : α → Bool} {sv fv : Value} {E : EncR α} {xs : List α} {X C Xf : NSet} {Post : Bool → List α → World → Prop} {W : World} {bs bi : Nat} (hs : SeqOk Try.prog sv E xs X C Post W) (hfv : IsFn fv) (hf : FnOk Try.prog fv E Value.bool p Xf W) (hXf : ∀ k, Xf k → k < W.heap.size ∧ ¬ C k)
    (hbs : Blk W bs [sv] 27) (hbi : Blk W bi [fv] 24) (hcb : ¬ C bs ∧ ¬ C bi) :
    SeqOk Try.prog (.func (.func 40) #[] #[.pointer (some ⟨bs, 0, none⟩), .pointer (some ⟨bi, 0, none⟩)]) E (xs.filter p) (fun k => X k ∨ Xf k ∨ k = bs ∨ k = bi) C (KeepPI p xs Post) W := by
  refine ⟨.inl ⟨_, _, rfl⟩, ?_, ?_, ?_, ?_, ?_⟩
  · rintro k ((h | h | h | h) | h)
    · exact hs.lt k (.inl h)
    · exact (hXf k h).1
    · rw [h]; exact hbs.lt
    · rw [h]; exact hbi.lt
    · exact hs.lt k (.inr h)
  · rintro k (h | h | h | h)
    · exact hs.apart k h
    · exact (hXf k h).2
    · rw [h]; exact hcb.1
    · rw [h]; exact hcb.2
  · intro x v G W W' S h hk hS
    exact hs.enc x v G W W' S h hk (fun k h => ⟨(hS k h).1, fun hx => (hS k h).2 (.inl hx)⟩)
  · rintro b pre W W' S ⟨q, h1, h2, h3⟩ hk hS
    exact ⟨q, hs.post _ _ _ _ _ h1 hk hS, h2, h3⟩
  · intro _ W' S hk hS
    exact keep1_atI (hs.kept hk (fun k h => ⟨fun hx => (hS k h).1 (.inl hx), (hS k h).2⟩)) hfv (hf.kept hk (fun k h hx => (hS k h).1 (.inr (.inl hx)))) (fun k h => ⟨Nat.lt_of_lt_of_le (hXf k h).1 hk.size, (hXf k h).2⟩)
      (hk.blk hbs (fun h => (hS _ h).1 (.inr (.inr (.inl rfl))))) (hk.blk hbi (fun h => (hS _ h).1 (.inr (.inr (.inr rfl))))) hcb

theorem eqyfI (fn : Fn) (lb : Array Value) (w : World) : (binOp .eql 24 (.func fn #[] lb) .nilFunc).run Try.prog w = .ok (.bool false) w := by
  have h : ∀ d : Nat, (Op.equalIn (d + 1) 24 (.func fn #[] lb) .nilFunc).run Try.prog w = .ok false w := fun d => by
    simp [Op.equalIn, run_underlying Try.underlying24]
  simp only [binOp]
  simp [Op.equal, Op.maxDepth, h 9999]
theorem eqynI (w : World) : (binOp .eql 24 .nilFunc .nilFunc).run Try.prog w = .ok (.bool true) w := by
  have h : ∀ d : Nat, (Op.equalIn (d + 1) 24 .nilFunc .nilFunc).run Try.prog w = .ok true w := fun d => by
    simp [Op.equalIn, run_underlying Try.underlying24]
  simp only [binOp]
  simp [Op.equal, Op.maxDepth, h 9999]
set_option maxHeartbeats 1000000 in
theorem keep_atI (W : World) (sv fv : Value) (hsv : sv.cells = #[sv]) (hfv : IsFn fv) :
    Calls Try.prog 10 #[sv, fv] W fun e W' => ∃ bs bi, e = .returned (.func (.func 40) #[] #[.pointer (some ⟨bs, 0, none⟩), .pointer (some ⟨bi, 0, none⟩)]) ∧ Blk W' bs [sv] 27 ∧ Blk W' bi [fv] 24 ∧ Kept (fun _ => False) W W' ∧ W.heap.size ≤ bs ∧ W.heap.size ≤ bi := by
  obtain ⟨ff, fl, rfl⟩ := hfv
  have Hsv := hide hsv
  clear hsv
  go_enter Try.func10, Try.ntmps10
  go_wp2_with (first
    | ((with_reducible refine aw_box (t := 27) (v := sv) rfl ?_); intro w1 hb1 hk1 hz1; have Hz1 := hide hz1; have Hb1 := hide hb1; have Hk1 := hide hk1; clear hz1 hb1 hk1)
    | ((with_reducible refine aw_box (t := 24) (v := .func ff #[] fl) rfl ?_); intro w2 hb2 hk2 hz2; have c1 : w2.cell? ⟨w1.heap.size, 0, none⟩ = some (.func ff #[] fl) := hb2.cell 0; have Hz2 := hide hz2; have Hb2 := hide hb2; have Hk2 := hide hk2; clear hz2 hb2 hk2; have hq := eqyfI ff fl w2))
  go_ret
  have hz1 := Hz1.out
  have hb1 := Hb1.out
  rw [Hsv.out] at hb1
  exact ⟨_, _, rfl, Hk2.out.blk hb1 (fun h => h), Hb2.out, Hk1.out.trans Hk2.out (fun _ _ h => h), Nat.le_refl _, by omega⟩
set_option maxHeartbeats 1000000 in
/-- Nothing is so. -/
theorem keep_nilI (W : World) (sv : Value) : Calls Try.prog 10 #[sv, .nilFunc] W fun e W' => ∃ b v', e = .returned (.func (.func 43) #[] #[.pointer (some ⟨b, 0, none⟩)]) ∧ Blk W' b [v'] 22 ∧ W'.ownsRow 0 3 1 v' 0 [] ∧ Kept (fun _ => False) W W' ∧ W.heap.size ≤ b ∧ (∀ k, v'.ownBlock = some k → W.heap.size ≤ k) := by
  go_enter Try.func10, Try.ntmps10
  go_wp2_with (first
    | ((with_reducible refine aw_box (t := 27) (v := sv) rfl ?_); intro w1 hb1 hk1 hz1; have Hz1 := hide hz1; have Hk1 := hide hk1; clear hz1 hb1 hk1)
    | ((with_reducible refine aw_box (t := 24) (v := .nilFunc) rfl ?_); intro w2 hb2 hk2 hz2; have c1 : w2.cell? ⟨w1.heap.size, 0, none⟩ = some .nilFunc := hb2.cell 0; have Hz2 := hide hz2; have Hk2 := hide hk2; clear hz2 hb2 hk2; have hq := eqynI w2)
    | (go_at_call 11; refine (of_atI w2 (.slice none 0 0) [] ⟨none, 0, rfl, by simp, fun h => by simp at h, fun _ => rfl⟩ (by simp) (by simp)).mono ?_; rintro e w3 ⟨b, v', rfl, h1, h2, h3, h4, h5⟩; have H1 := hide h1; have H2 := hide h2; have H3 := hide h3; have H5 := hide h5; clear h1 h2 h3 h5))
  go_ret
  have hz1 := Hz1.out
  have hz2 := Hz2.out
  exact ⟨b, v', rfl, H1.out, H2.out, (Hk1.out.trans Hk2.out (fun _ _ h => h)).trans H3.out (fun _ _ h => h), by omega, fun k h => by have := H5.out k h; omega⟩
end Go.Proofs.Ytgeffdoepcbhiaa
