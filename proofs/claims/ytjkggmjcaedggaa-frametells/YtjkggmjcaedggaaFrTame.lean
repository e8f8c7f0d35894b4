/-
  tame: a sequence that ends when it is told to, and whose panics end it, made of one that does so anyway.
-/
import Derived.Test.YtjkggmjcaedggaaFrSpread
import Derived.Test.YtjkggmjcaedggaaRangeS
import Derived.DefersIn
import Derived.RecoverIn
import Derived.TacticsInMore
namespace Go.Proofs.Ytjkggmjcaedggaa
open Go.RowKit Go.Shelf
set_option linter.unusedSimpArgs false
set_option linter.unusedVariables false
attribute [local go_sem] Oper.semAt_some

/-- The deferred closure, where nothing panics: 'more' is false. -/
theorem shut_at (n : Nat) (w : World) (bm : Nat) (b : Bool) (hb : Blk w bm [.bool b] 4) :
    CallsDIn Fence.wide n Try.prog 50 #[.pointer (some ⟨bm, 0, none⟩)] .returning w fun e u' w' => e = .returned (.tuple #[]) ∧ u' = .returning ∧ Blk w' bm [.bool false] 4 ∧ Kept (fun k => k = bm) w w' := by
  have hc : w.cell? ⟨bm, 0, none⟩ = some (.bool b) := hb.cell 0
  have hz : w.frozen? ⟨bm, 0, none⟩ = false := hb.frozen 0
  have hn : Blk (w.setCell ⟨bm, 0, none⟩ (.bool false)) bm [.bool false] 4 := hb.setCell 0 _
  have hk : Kept (fun k => k = bm) w (w.setCell ⟨bm, 0, none⟩ (.bool false)) := Kept.setCell _ _ _ rfl
  refine callsDIn_of_wpSIn Try.func50 rfl trivial fun c₀ cs hu => ?_
  apply wpSIn_seq
  apply wpSIn_region
  simp [wpOpsSIn, go_sem, recoverD, hu, Try.ntmps50, Exit.thenS, hc, hz]
  generalize w.setCell ⟨bm, 0, none⟩ (.bool false) = w1 at hn hk ⊢
  apply wpSIn_region
  cases c₀
  simp only at hu
  subst hu
  simp [wpOpsSIn, go_sem, recoverD, Exit.thenS, bodyPostS, results, Try.results50]
  exact ⟨hn, hk⟩

theorem eql62 (ff : Fn) (fl : Array Value) (w : World) : (binOp .eql 62 (.func ff #[] fl) .nilFunc).run Try.prog w = .ok (.bool false) w := by
  have h : ∀ d : Nat, (Op.equalIn (d + 1) 62 (.func ff #[] fl) .nilFunc).run Try.prog w = .ok false w := fun d => by
    simp [Op.equalIn, run_underlying Try.underlying62]
  simp only [binOp]
  simp [Op.equal, Op.maxDepth, h 9999]

def TameJ {α : Type} (b : Bool) (tv : Value) (bm bt : Nat) (I : List α → NSet → World → Prop) (pre : List α) (F : NSet) (W : World) : Prop :=
  (∃ Fi, F = (fun k => Fi k ∨ k = bm) ∧ I pre Fi W ∧ Blk W bm [.bool b] 4 ∧ ¬ Fi bm) ∧ Blk W bt [tv] 50 ∧ ¬ F bt
theorem TameJ.stab {α : Type} {b : Bool} {tv : Value} {bm bt : Nat} {I : List α → NSet → World → Prop} {B B' : Nat} {C : NSet} (h : ∀ pre, Stab B C (I pre)) (hB : B ≤ B') (ht : bt < B' ∧ ¬ C bt) (pre : List α) : Stab B' C (TameJ b tv bm bt I pre) :=
  ((h pre).own (b := bm) (L := [.bool b]) (t := 4) hB).blk (L := [tv]) (t := 50) (Nat.le_refl _) ht.1 ht.2

set_option maxRecDepth 100000 in
set_option maxHeartbeats 1000000 in
theorem tamew {α : Type} {E : EncR α} {xs : List α} {B : Nat} {F0 C X : NSet} {tv : Value} {J Jx : List α → NSet → World → Prop} (htv : IsFn tv) (hE : EOk X E) (hSJ : ∀ pre, Stab B C (J pre)) (hSX : ∀ pre, Stab B C (Jx pre)) (ht : Takes Try.prog E xs B F0 tv J Jx)
    {bm bt B' : Nat} (hB : B ≤ B') (hbm : bm < B' ∧ B ≤ bm) (hbt : bt < B') (hmt : bm ≠ bt) :
    Takes Try.prog E xs B' (fun k => F0 k ∨ k = bm) (.func (.func 51) #[] #[.pointer (some ⟨bm, 0, none⟩), .pointer (some ⟨bt, 0, none⟩)]) (TameJ true tv bm bt J) (TameJ false tv bm bt Jx) := by
  rintro pre x post F G v W hxs ⟨⟨Fi, rfl, hJ, hBm, hnm⟩, hBt, hnt⟩ hBW hF hEx hG
  have hGm : ¬ G bm := fun h => by have := (hG bm h).2; omega
  have hGt : ¬ G bt := fun h => by have := (hG bt h).2; omega
  have hnt2 : ¬ Fi bt := fun h => hnt (.inl h)
  have hltm := hBm.lt
  have hltt := hBt.lt
  have c1 : W.cell? ⟨bm, 0, none⟩ = some (.bool true) := hBm.cell 0
  have c2 : W.cell? ⟨bt, 0, none⟩ = some tv := hBt.cell 0
  have hyc := ht pre x post Fi G v W hxs hJ (by omega) (fun k hk => by
    rcases hF k (.inl hk) with (h | h) | h
    · exact .inl h
    · exact absurd (h ▸ hk) hnm
    · exact .inr (by omega)) hEx (fun k hk => by have := hG k hk; exact ⟨fun h => this.1 (.inl h), by omega, by omega⟩)
  have Hyc := hide hyc
  -- what is left behind
  have Hend : Hid (∀ (b : Bool) (I : List α → NSet → World → Prop) (F' : NSet) (w3 w4 : World), (∀ pre, Stab B C (I pre)) → I (pre ++ [x]) F' w3 → Kept (fun k => Fi k ∨ G k) W w3 → (∀ k, F' k → Fi k ∨ G k ∨ W.heap.size ≤ k) → Blk w4 bm [.bool b] 4 → Kept (fun k => k = bm) w3 w4 →
      TameJ b tv bm bt I (pre ++ [x]) (fun k => F' k ∨ k = bm) w4 ∧ Kept (fun k => (Fi k ∨ k = bm) ∨ G k) W w4 ∧ ∀ k, (F' k ∨ k = bm) → (Fi k ∨ k = bm) ∨ G k ∨ W.heap.size ≤ k) := hide (fun b I F' w3 w4 hSI hI hk3 hF' hb4 hk4 => by
    have hn' : ∀ j, j < W.heap.size → ¬ Fi j → ¬ G j → ¬ F' j := fun j hj h1 h2 h3 => by
      rcases hF' j h3 with h | h | h
      · exact h1 h
      · exact h2 h
      · omega
    refine ⟨⟨⟨F', rfl, ?_, hb4, hn' bm hltm hnm hGm⟩, ?_, ?_⟩, ?_, ?_⟩
    · exact (hSI _).kept _ _ _ _ hI hk4 (fun k h1 h2 => hn' bm hltm hnm hGm (h1 ▸ h2)) (fun k h1 h2 => by omega)
    · exact hk4.blk (hk3.blk hBt (fun h => h.elim hnt2 hGt)) (fun h => hmt h.symm)
    · rintro (h | h)
      · exact hn' bt hltt hnt2 hGt h
      · exact hmt h.symm
    · exact (hk3.mono (T := fun k => (Fi k ∨ k = bm) ∨ G k) (fun k _ h => h.elim (fun h => .inl (.inl h)) .inr)).trans hk4 (fun k _ h => .inl (.inr h))
    · rintro k (h | h)
      · rcases hF' k h with h | h | h
        · exact .inl (.inl h)
        · exact .inr (.inl h)
        · exact .inr (.inr h)
      · exact .inl (.inr h))
  have Hbm : Hid (∀ w3, Kept (fun k => Fi k ∨ G k) W w3 → Blk w3 bm [.bool true] 4) := hide (fun w3 hk3 => hk3.blk hBm (fun h => h.elim hnm hGm))
  have HSJ := hide hSJ
  have HSX := hide hSX
  obtain ⟨tf, tl, rfl⟩ := htv
  clear hyc hJ hBm hBt hEx hG hF hxs ht hE hSJ hSX
  refine .inl ⟨_, _, rfl, enters_of Try.func51 (by kernel_rfl) rfl, ?_⟩
  show Calls Try.prog 51 #[v, .pointer (some ⟨bm, 0, none⟩), .pointer (some ⟨bt, 0, none⟩)] W _
  refine (callsIn_wide (n := 4)).1 (callsIn_of_wp Try.func51 rfl trivial ?_ rfl)
  simp only [Try.ntmps51, List.size_toArray, List.length_cons, List.length_nil, Nat.reduceAdd, Nat.reduceSub, Array.replicate_succ, Array.replicate_zero, List.push_toArray, List.append_toArray, List.nil_append, List.cons_append]
  gi_wp2_with (first
    | (with_reducible refine stopi_val1 ?_)
    | ((with_reducible refine And.intro ?_ ?_); · exact fun _ _ => trivial))
  refine hide ?_
  try simp only [put_lit, List.set_cons_succ, List.set_cons_zero]
  refine ai_yc1 (yv := .func tf #[] tl) (vy := v) rfl rfl rfl Hyc.out ?_
  rintro e w3 ⟨F', hcase, hk3, hF'⟩
  have cm : w3.cell? ⟨bm, 0, none⟩ = some (.bool true) := (Hbm.out w3 hk3).cell 0
  have fm : w3.frozen? ⟨bm, 0, none⟩ = false := (Hbm.out w3 hk3).frozen 0
  rcases hcase with ⟨rfl, hJ3⟩ | ⟨rfl, hJ3⟩
  · have HF := hide (Hend.out true J F' w3 (w3.setCell ⟨bm, 0, none⟩ (.bool true)) HSJ.out hJ3 hk3 hF' ((Hbm.out w3 hk3).setCell 0 _) (Kept.setCell _ _ _ rfl))
    clear hJ3 hk3 hF' c1 c2
    refine ⟨_, rfl, ?_⟩
    try simp only [put_lit, List.set_cons_succ, List.set_cons_zero]
    gi_wp2
    go_ret
    exact ⟨_, .inl ⟨rfl, HF.out.1⟩, HF.out.2.1, HF.out.2.2⟩
  · have HF := hide (Hend.out false Jx F' w3 (w3.setCell ⟨bm, 0, none⟩ (.bool false)) HSX.out hJ3 hk3 hF' ((Hbm.out w3 hk3).setCell 0 _) (Kept.setCell _ _ _ rfl))
    clear hJ3 hk3 hF' c1 c2
    refine ⟨_, rfl, ?_⟩
    try simp only [put_lit, List.set_cons_succ, List.set_cons_zero]
    gi_wp2
    go_ret
    exact ⟨_, .inr ⟨rfl, HF.out.1⟩, HF.out.2.1, HF.out.2.2⟩

set_option maxRecDepth 100000 in
set_option maxHeartbeats 1000000 in
theorem tame1_at {α : Type} {sv : Value} {E : EncR α} {xs : List α} {X C : NSet} {Post : Bool → List α → World → Prop} {W : World} {bs : Nat} (hs : SeqOk Try.prog sv E xs X C Post W) (hfn : IsFn sv) (hbs : Blk W bs [sv] 62) (hcb : ¬ C bs) :
    FSeqAt Try.prog (.func (.func 49) #[] #[.pointer (some ⟨bs, 0, none⟩)]) E xs (fun k => X k ∨ k = bs) C Post W := by
  intro tv J Jx F0 htv hJ hJx hF0 ht h0
  obtain ⟨i4, hi4, hz4, hs4, hb4⟩ := info_parts Try.info4
  have Hi := hide hi4
  have Hz := hide hz4
  have Hs := hide hs4
  have hlts := hbs.lt
  have hlt0 := (hJ []).lt _ _ h0
  have hCl : ∀ k, C k → k < W.heap.size := fun k h => hs.lt k (.inr h)
  have Hrun : Hid (∀ w2 bm, Kept (fun _ => False) W w2 → bm = W.heap.size + 1 → w2.heap.size = W.heap.size + 2 → Blk w2 W.heap.size [tv] 50 → Blk w2 bm [.bool true] 4 →
      YC Try.prog sv #[.func (.func 51) #[] #[.pointer (some ⟨bm, 0, none⟩), .pointer (some ⟨W.heap.size, 0, none⟩)]] w2 (fun e W' => (∃ u, e = .returned u) ∧ ∃ b, Blk W' bm [.bool b] 4 ∧ ∀ W'', Kept (fun k => k = bm) W' W'' → FEnded J Jx xs C Post F0 W (.returned (.tuple #[])) W'')) := hide (fun w2 bm hk2 hbm hz2 hbt hbb => by
    refine (hs.run hfn w2 _ hk2 (fun _ h => h.elim) (.func (.func 51) #[] #[.pointer (some ⟨bm, 0, none⟩), .pointer (some ⟨W.heap.size, 0, none⟩)]) (TameJ true tv bm W.heap.size J) (TameJ false tv bm W.heap.size Jx) (fun k => F0 k ∨ k = bm) ⟨_, _, rfl⟩
      (TameJ.stab hJ (by omega) ⟨by omega, fun h => by have := hCl _ h; omega⟩) (TameJ.stab hJx (by omega) ⟨by omega, fun h => by have := hCl _ h; omega⟩)
      (fun k h => h.elim (fun h => ⟨fun hx => (hF0 k h).1 (.inl hx), (hF0 k h).2⟩) (fun h => ⟨fun hx => by have := hs.lt k (.inl hx); omega, fun hx => by have := hCl k hx; omega⟩))
      (tamew htv hs.enc hJ hJx ht (by omega) ⟨by omega, by omega⟩ (by omega) (by omega))
      ⟨⟨F0, rfl, (hJ []).none h0 hk2, hbb, fun h => by have := hlt0 _ h; omega⟩, hbt, fun h => h.elim (fun h => by have := hlt0 _ h; omega) (fun h => by omega)⟩).mono ?_
    rintro e W' ⟨⟨u, rfl⟩, b, hkW, hcase⟩
    refine ⟨⟨u, rfl⟩, ?_⟩
    have hFo : ∀ (Fi : NSet), (∀ k, (Fi k ∨ k = bm) → (F0 k ∨ k = bm) ∨ w2.heap.size ≤ k) → ∀ k, Fi k → F0 k ∨ W.heap.size ≤ k := fun Fi h k hk => by
      rcases h k (.inl hk) with (h | h) | h
      · exact .inl h
      · exact .inr (by omega)
      · exact .inr (by omega)
    have hkF : ∀ W'', Kept (fun k => k = bm) W' W'' → Kept (fun k => F0 k ∨ C k) W W'' := fun W'' hk => ((hk2.mono (T := fun k => F0 k ∨ C k) (fun _ _ h => h.elim)).trans hkW (fun k hk h => by
      rcases h with (h | h) | h
      · exact .inl h
      · omega
      · exact .inr h)).trans hk (fun k hk h => by omega)
    have hP : ∀ b pre W'', Post b pre W' → Kept (fun k => k = bm) W' W'' → Post b pre W'' := fun b pre W'' h hk => hs.post _ _ _ _ _ h hk (fun k h1 h2 => by have := hCl k h2; omega)
    rcases hcase with ⟨rfl, F', ⟨⟨Fi, rfl, hi, hbm', hnm⟩, _, _⟩, hF', hPo⟩ | ⟨rfl, pre, F', hpre, ⟨⟨Fi, rfl, hi, hbm', hnm⟩, _, _⟩, hF', hPo⟩
    · refine ⟨true, hbm', fun W'' hk => ⟨⟨_, rfl⟩, true, hkF W'' hk, .inl ⟨rfl, Fi, ?_, hFo Fi hF', hP _ _ _ hPo hk⟩⟩⟩
      exact (hJ _).kept _ _ _ _ hi hk (fun k h1 h2 => hnm (h1 ▸ h2)) (fun k h1 h2 => by omega)
    · refine ⟨false, hbm', fun W'' hk => ⟨⟨_, rfl⟩, false, hkF W'' hk, .inr ⟨rfl, pre, Fi, hpre, ?_, hFo Fi hF', hP _ _ _ hPo hk⟩⟩⟩
      exact (hJx _).kept _ _ _ _ hi hk (fun k h1 h2 => hnm (h1 ▸ h2)) (fun k h1 h2 => by omega))
  have HBs := hide hbs
  obtain ⟨tf, tl, rfl⟩ := htv
  obtain ⟨sf, sl, rfl⟩ := hfn
  have hq := eql62 sf sl
  have hmf : ∀ (fn : Fn) (first cap : Array Value) (w : World), (Instr.makeFunc fn first cap).run Try.prog w = .ok (.func fn first cap) w := fun _ _ _ _ => rfl
  clear hs hbs hcb hJ hJx hF0 ht h0 hlt0 hCl hi4 hz4 hs4 hb4
  refine .inl ⟨_, _, rfl, enters_of Try.func49 (by kernel_rfl) rfl, ?_⟩
  show Calls Try.prog 49 #[.func tf #[] tl, .pointer (some ⟨bs, 0, none⟩)] W _
  refine (callsIn_wide (n := 4)).1 (callsIn_of_wp_defers Try.func49 rfl trivial ?_ rfl)
  simp only [Try.ntmps49, List.size_toArray, List.length_cons, List.length_nil, Nat.reduceAdd, Nat.reduceSub, Array.replicate_succ, Array.replicate_zero, List.push_toArray, List.append_toArray, List.nil_append, List.cons_append]
  gi_wp2_with (first
    | ((with_reducible refine ai_box (t := 50) (v := .func tf #[] tl) rfl ?_); intro w1 hb1 hk1 hz1; have Hz1 := hide hz1; clear hz1; have c0 : w1.cell? ⟨bs, 0, none⟩ = some (.func sf #[] sl) := (hk1.blk HBs.out (fun h => h)).cell 0)
    | ((with_reducible refine ai_alloc (t := 4) Hi.out Hz.out ?_); intro w2 hb2 hk2 hz2; have Hz2 := hide hz2; clear hz2 c0)
    | (with_reducible refine stopi_store 4 ?_)
    | ((with_reducible refine And.intro ?_ ?_); · exact fun _ _ => trivial))
  refine hide ?_
  refine ai_store1 (v := .bool true) (off := 0) Hi.out Hs.out rfl rfl rfl rfl hb2 (by simp [Value.cells]) ?_
  intro w3 hb3 hk3 hz3
  have hz1 := Hz1.out
  have hz2 := Hz2.out
  have hk13 : Kept (fun _ => False) w1 w3 := hk2.trans hk3 (fun i hi h => by omega)
  have hk03 : Kept (fun _ => False) W w3 := hk1.trans hk13 (fun _ _ h => h)
  have Hyc := hide (Hrun.out w3 w1.heap.size hk03 hz1 (by omega) (hk13.blk hb1 (fun h => h)) hb3)
  have c0 : w3.cell? ⟨bs, 0, none⟩ = some (.func sf #[] sl) := (hk03.blk HBs.out (fun h => h)).cell 0
  obtain ⟨bm, hbm⟩ : ∃ bm, bm = w1.heap.size := ⟨_, rfl⟩
  rw [← hbm] at Hyc ⊢
  clear hz1 hz2 hz3 Hz1 Hz2 hb1 hb2 hb3 hk1 hk2 hk3 hk13 hk03 hbm
  try simp only [put_lit, put_none, List.set_cons_succ, List.set_cons_zero]
  gi_wp2_with (first
    | (with_reducible refine stopi_val1 ?_)
    | ((with_reducible refine And.intro ?_ ?_); · exact fun _ _ => trivial))
  refine hide ?_
  try simp only [put_lit, List.set_cons_succ, List.set_cons_zero]
  refine ai_yc1 (yv := .func sf #[] sl) (vy := .func (.func 51) #[] #[.pointer (some ⟨bm, 0, none⟩), .pointer (some ⟨W.heap.size, 0, none⟩)]) rfl rfl rfl Hyc.out ?_
  rintro e w4 ⟨⟨u, rfl⟩, b, hb4, hfin⟩
  refine ⟨_, rfl, ?_⟩
  have Hfin := hide hfin
  have Hb4 := hide hb4
  clear hfin hb4 c0
  try simp only [put_lit, List.set_cons_succ, List.set_cons_zero]
  gi_wp2
  have hent : ∀ args w, (callFunc 50 args).run Try.prog w = .ok (.enter 50 args) w := enters_of Try.func50 (by kernel_rfl) rfl
  refine leavesIn_cons (f := 50) (args := #[.pointer (some ⟨bm, 0, none⟩)]) (by simp) (by simp [Fence.wide]) (by simp [go_sem, hent]) (fun _ _ => trivial) ?_
  refine (shut_at _ w4 bm b Hb4.out).mono ?_
  rintro e u' w5 ⟨rfl, rfl, hb5, hk5⟩
  have hend := Hfin.out w5 hk5
  exact ⟨_, results_none rfl _ _ _, hend⟩
theorem tame_ok {α : Type} {sv : Value} {E : EncR α} {xs : List α} {X C : NSet} {Post : Bool → List α → World → Prop} {W : World} {bs : Nat} (hs : SeqOk Try.prog sv E xs X C Post W) (hfn : IsFn sv) (hbs : Blk W bs [sv] 62) (hcb : ¬ C bs) :
    SeqOk Try.prog (.func (.func 49) #[] #[.pointer (some ⟨bs, 0, none⟩)]) E xs (fun k => X k ∨ k = bs) C Post W := by
  refine ⟨.inl ⟨_, _, rfl⟩, ?_, ?_, ?_, hs.post, ?_⟩
  · rintro k ((h | h) | h)
    · exact hs.lt k (.inl h)
    · rw [h]; exact hbs.lt
    · exact hs.lt k (.inr h)
  · rintro k (h | h)
    · exact hs.apart k h
    · rw [h]; exact hcb
  · intro x v G W W' S h hk hS
    exact hs.enc x v G W W' S h hk (fun k h => ⟨(hS k h).1, fun hx => (hS k h).2 (.inl hx)⟩)
  · intro _ W' S hk hS
    exact tame1_at (hs.kept hk (fun k h => ⟨fun hx => (hS k h).1 (.inl hx), (hS k h).2⟩)) hfn (hk.blk hbs (fun h => (hS _ h).1 (.inr rfl))) hcb
set_option maxHeartbeats 1000000 in
theorem tame_at (W : World) (sv : Value) (hsv : sv.cells = #[sv]) :
    Calls Try.prog 33 #[sv] W fun e W' => ∃ bs, e = .returned (.func (.func 49) #[] #[.pointer (some ⟨bs, 0, none⟩)]) ∧ Blk W' bs [sv] 62 ∧ Kept (fun _ => False) W W' ∧ W.heap.size ≤ bs := by
  have Hsv := hide hsv
  clear hsv
  go_enter Try.func33, Try.ntmps33
  go_wp2_with (first
    | ((with_reducible refine aw_box (t := 62) (v := sv) rfl ?_); intro w1 hb1 hk1 hz1; have Hb1 := hide hb1; have Hk1 := hide hk1; clear hz1 hb1 hk1))
  go_ret
  have hb1 := Hb1.out
  rw [Hsv.out] at hb1
  exact ⟨_, rfl, hb1, Hk1.out, Nat.le_refl _⟩
end Go.Proofs.Ytjkggmjcaedggaa
