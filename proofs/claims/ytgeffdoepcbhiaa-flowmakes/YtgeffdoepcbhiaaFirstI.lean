/-
  First, for elements of one type.
-/
import Derived.Test.YtgeffdoepcbhiaaOfI
namespace Go.Proofs.Ytgeffdoepcbhiaa
open Go.RowKit Go.Shelf
set_option linter.unusedSimpArgs false
set_option linter.unusedVariables false
attribute [local go_sem] Oper.semAt_some

/-- What holds while First's sequence goes through the one that it is made of: n less those that came are left. -/
def FirstJI {α : Type} (I : List α → NSet → World → Prop) (n : Int) (tv : Value) (bl bt : Nat) (pre : List α) (F : NSet) (W : World) : Prop :=
  ∃ Fi, F = (fun k => Fi k ∨ k = bl) ∧ (I pre Fi W ∧ Blk W bt [tv] 24 ∧ ¬ Fi bt) ∧ Blk W bl [.int .i64 (n - (pre.length : Int))] 3 ∧ ¬ Fi bl
def FirstAI {α : Type} (J : List α → NSet → World → Prop) (n : Int) (pre : List α) (F : NSet) (W : World) : Prop := J pre F W ∧ (pre.length : Int) < n
/-- It was told to end, or had enough. -/
def FirstXI {α : Type} (J Jx : List α → NSet → World → Prop) (n : Int) (pre : List α) (F : NSet) (W : World) : Prop := (Jx pre F W ∧ (pre.length : Int) ≤ n) ∨ (J pre F W ∧ (pre.length : Int) = n)
theorem FirstAI.stab {α : Type} {J : List α → NSet → World → Prop} {n : Int} {B : Nat} {C : NSet} (h : ∀ pre, Stab B C (J pre)) (pre : List α) : Stab B C (FirstAI J n pre) :=
  ⟨fun F W hi => (h pre).lt F W hi.1, fun F W W' S hi hk h1 h2 => ⟨(h pre).kept F W W' S hi.1 hk h1 h2, hi.2⟩⟩
theorem FirstXI.stab {α : Type} {J Jx : List α → NSet → World → Prop} {n : Int} {B : Nat} {C : NSet} (h : ∀ pre, Stab B C (J pre)) (hx : ∀ pre, Stab B C (Jx pre)) (pre : List α) : Stab B C (FirstXI J Jx n pre) :=
  ⟨fun F W hi => hi.elim (fun hi => (hx pre).lt F W hi.1) (fun hi => (h pre).lt F W hi.1), fun F W W' S hi hk h1 h2 => hi.imp (fun hi => ⟨(hx pre).kept F W W' S hi.1 hk h1 h2, hi.2⟩) (fun hi => ⟨(h pre).kept F W W' S hi.1 hk h1 h2, hi.2⟩)⟩
theorem FirstJI.stab {α : Type} {I : List α → NSet → World → Prop} {n : Int} {tv : Value} {bl bt B B' : Nat} {C : NSet} (h : ∀ pre, Stab B C (I pre)) (hB : B ≤ B') (ht : bt < B' ∧ ¬ C bt) (pre : List α) : Stab B' C (FirstJI I n tv bl bt pre) :=
  ((h pre).blk hB ht.1 ht.2).own (Nat.le_refl _)

set_option maxRecDepth 100000 in
set_option maxHeartbeats 1000000 in
theorem firstwI {α : Type} {E : EncR α} {xs : List α} {n : Int} (hn : n ≤ 9223372036854775807) {B : Nat} {F0 C X : NSet} {tv : Value} {J Jx : List α → NSet → World → Prop} (htv : IsFn tv) (hE : EOk X E) (hSJ : ∀ pre, Stab B C (J pre)) (ht : Takes Try.prog E (xs.take n.toNat) B F0 tv J Jx)
    {bl bt B' : Nat} (hB : B ≤ B') (hbl : B ≤ bl ∧ bl < B') (hbt : bt < B') (hne : bl ≠ bt) (hXl : ¬ X bl) :
    Takes Try.prog E xs B' (fun k => F0 k ∨ k = bl) (.func (.func 50) #[] #[.pointer (some ⟨bl, 0, none⟩), .pointer (some ⟨bt, 0, none⟩)]) (FirstJI (FirstAI J n) n tv bl bt) (FirstJI (FirstXI J Jx n) n tv bl bt) := by
  rintro pre x post F G v W hxs ⟨Fi, rfl, ⟨⟨hJ, hlen⟩, hBt, hnt⟩, hBl, hnl⟩ hBW hF hEx hG
  have hGl : ¬ G bl := fun h => (hG bl h).1 (.inr rfl)
  have hGt : ¬ G bt := fun h => by have := (hG bt h).2; omega
  obtain ⟨i3, hi3, hz3, hs3, hb3⟩ := info_parts Try.info3
  obtain ⟨q, hq⟩ : ∃ q : Int, q = n - (pre.length : Int) := ⟨_, rfl⟩
  rw [← hq] at hBl
  have hq1 : 1 ≤ q := by omega
  have hq2 : q ≤ 9223372036854775807 := by omega
  have hxs2 : xs.take n.toNat = pre ++ x :: post.take (n.toNat - pre.length - 1) := by
    rw [hxs, List.take_append]
    obtain ⟨m, hm⟩ : ∃ m, n.toNat - pre.length = m + 1 := ⟨n.toNat - pre.length - 1, by omega⟩
    rw [hm, List.take_succ_cons, List.take_of_length_le (by omega)]
    rfl
  have c0 : W.cell? ⟨bl, 0, none⟩ = some (.int .i64 q) := hBl.cell 0
  have hltt := hBt.lt
  have hltl := hBl.lt
  have HBt := hide hBt
  have HBl := hide hBl
  have HJ := hide hJ
  have HEx := hide hEx
  have HT := hide ht
  have HSJ := hide hSJ
  have HG := hide hG
  have HF := hide hF
  have HE := hide hE
  have Hxs2 := hide hxs2
  have Hq := hide hq
  have Hi3 := hide hi3
  have Hs3 := hide hs3
  have Hlen := hide hlen
  obtain ⟨tf, tl, rfl⟩ := htv
  clear hBt hBl hJ hEx ht hSJ hG hF hE hxs hxs2 hi3 hz3 hs3 hb3 hq hlen
  refine .inl ⟨_, _, rfl, enters_of Try.func50 (by kernel_rfl) rfl, ?_⟩
  show Calls Try.prog 50 #[v, .pointer (some ⟨bl, 0, none⟩), .pointer (some ⟨bt, 0, none⟩)] W _
  refine (callsIn_wide (n := 4)).1 (callsIn_of_wp Try.func50 rfl trivial ?_ rfl)
  simp only [Try.ntmps50, List.size_toArray, List.length_cons, List.length_nil, Nat.reduceAdd, Nat.reduceSub, Array.replicate_succ, Array.replicate_zero, List.push_toArray, List.append_toArray, List.nil_append, List.cons_append]
  gi_wp2_with (with_reducible refine stopi_store 3 ?_)
  refine hide ?_
  refine ai_store1 (v := .int .i64 (q - 1)) Hi3.out Hs3.out rfl rfl rfl rfl HBl.out (by simp) ?_
  intro w2 hb2 hk2 hz2
  have hJ2 := (HSJ.out _).kept _ _ _ _ HJ.out hk2 (fun k h1 h2 => hnl (h1 ▸ h2)) (fun k h1 h2 => by omega)
  have hBt2 := hk2.blk HBt.out (fun h => hne h.symm)
  have hyc := HT.out pre x _ Fi G v w2 Hxs2.out hJ2 (by omega) (fun k hk => by
    rcases HF.out k (.inl hk) with (h | h) | h
    · exact .inl h
    · exact .inr (by omega)
    · exact .inr (by omega)) (HE.out _ _ _ _ _ _ HEx.out hk2 (fun k h => ⟨fun h' => hGl (h ▸ h'), fun h' => hXl (h ▸ h')⟩)) (fun k hk => by have := HG.out k hk; exact ⟨fun h => this.1 (.inl h), by omega, by omega⟩)
  have Hyc := hide hyc
  have c1 : w2.cell? ⟨bt, 0, none⟩ = some (.func tf #[] tl) := hBt2.cell 0
  have HBl2 : Hid (Blk w2 bl [.int .i64 (q - 1)] 3) := hide hb2
  have HBt2 := hide hBt2
  have Hk2 := hide hk2
  have Hz2 := hide hz2
  clear hyc hJ2 hBt2 hb2 hk2 hz2 c0
  try simp only [put_lit, put_none, List.set_cons_succ, List.set_cons_zero]
  gi_wp2_with (with_reducible refine stopi_val1 ?_)
  refine hide ?_
  try simp only [put_lit, List.set_cons_succ, List.set_cons_zero]
  refine ai_yc1 (yv := .func tf #[] tl) (vy := v) rfl rfl rfl Hyc.out ?_
  rintro e w3 ⟨F', hcase, hk3, hF'⟩
  have hz2 := Hz2.out
  have hn' : ∀ j, j < W.heap.size → ¬ Fi j → ¬ G j → ¬ F' j := fun j hj h1 h2 h3 => by
    rcases hF' j h3 with h | h | h
    · exact h1 h
    · exact h2 h
    · omega
  have hbl3 := hk3.blk HBl2.out (fun h => h.elim hnl hGl)
  have c2 : w3.cell? ⟨bl, 0, none⟩ = some (.int .i64 (q - 1)) := hbl3.cell 0
  have hq' : q - 1 = n - ((pre ++ [x]).length : Int) := by rw [Hq.out]; simp; omega
  have Hgen : Hid (∀ I : List α → NSet → World → Prop, I (pre ++ [x]) F' w3 → FirstJI I n (.func tf #[] tl) bl bt (pre ++ [x]) (fun k => F' k ∨ k = bl) w3) := hide (fun I hI =>
    ⟨F', rfl, ⟨hI, hk3.blk HBt2.out (fun h => h.elim hnt hGt), hn' bt hltt hnt hGt⟩, by rw [← hq']; exact hbl3, hn' bl hltl hnl hGl⟩)
  have Hk03 : Hid (Kept (fun k => (Fi k ∨ k = bl) ∨ G k) W w3) := hide ((Hk2.out.mono (T := fun k => (Fi k ∨ k = bl) ∨ G k) (fun _ _ h => .inl (.inr h))).trans hk3 (fun _ _ h => h.elim (fun h => .inl (.inl h)) .inr))
  have HF3 : Hid (∀ k, (F' k ∨ k = bl) → (Fi k ∨ k = bl) ∨ G k ∨ W.heap.size ≤ k) := hide (fun k h => h.elim (fun h => (hF' k h).elim (fun h => .inl (.inl h)) (fun h => h.elim (fun h => .inr (.inl h)) (fun h => .inr (.inr (by omega))))) (fun h => .inl (.inr h)))
  have Hq' := hide hq'
  clear hn' hF' hk3 c1 hbl3 hz2 hq'
  rcases hcase with ⟨rfl, hJ3⟩ | ⟨rfl, hJ3⟩
  · by_cases h1 : q = 1
    · have hl1 : ((pre ++ [x]).length : Int) = n := by have := Hq'.out; omega
      have Hfin : Hid (Handed (FirstJI (FirstAI J n) n (.func tf #[] tl) bl bt) (FirstJI (FirstXI J Jx n) n (.func tf #[] tl) bl bt) (pre ++ [x]) (fun k => Fi k ∨ k = bl) G W (.returned (.bool false)) w3) := hide ⟨_, .inr ⟨rfl, Hgen.out _ (.inr ⟨hJ3, hl1⟩)⟩, Hk03.out, HF3.out⟩
      clear hJ3 Hgen Hk03 HF3 hl1
      subst h1
      refine ⟨_, rfl, ?_⟩
      try simp only [put_lit, List.set_cons_succ, List.set_cons_zero]
      gi_wp2
      go_ret
      exact Hfin.out
    · have hl1 : ((pre ++ [x]).length : Int) < n := by have := Hq'.out; omega
      have Hfin : Hid (Handed (FirstJI (FirstAI J n) n (.func tf #[] tl) bl bt) (FirstJI (FirstXI J Jx n) n (.func tf #[] tl) bl bt) (pre ++ [x]) (fun k => Fi k ∨ k = bl) G W (.returned (.bool true)) w3) := hide ⟨_, .inl ⟨rfl, Hgen.out _ ⟨hJ3, hl1⟩⟩, Hk03.out, HF3.out⟩
      have hd : decide (0 < q - 1) = true := by simp; omega
      clear hJ3 Hgen Hk03 HF3 hl1
      refine ⟨_, rfl, ?_⟩
      try simp only [put_lit, List.set_cons_succ, List.set_cons_zero]
      gi_wp2
      go_ret
      first | exact Hfin.out | (simp only [hd]; exact Hfin.out) | (rw [show decide (1 < q) = true by simp; omega]; exact Hfin.out)
  · have hl1 : ((pre ++ [x]).length : Int) ≤ n := by have := Hq'.out; omega
    have Hfin : Hid (Handed (FirstJI (FirstAI J n) n (.func tf #[] tl) bl bt) (FirstJI (FirstXI J Jx n) n (.func tf #[] tl) bl bt) (pre ++ [x]) (fun k => Fi k ∨ k = bl) G W (.returned (.bool false)) w3) := hide ⟨_, .inr ⟨rfl, Hgen.out _ (.inl ⟨hJ3, hl1⟩)⟩, Hk03.out, HF3.out⟩
    clear hJ3 Hgen Hk03 HF3 hl1
    refine ⟨_, rfl, ?_⟩
    try simp only [put_lit, List.set_cons_succ, List.set_cons_zero]
    gi_wp2_with ((with_reducible refine And.intro ?_ ?_); · exact fun _ _ => trivial)
    go_ret
    exact Hfin.out
/-- What was asked of the sequence that First's is made of. -/
def FirstPI {α : Type} (Post : Bool → List α → World → Prop) (b : Bool) (pre : List α) (W : World) : Prop := ∃ b', Post b' pre W

set_option maxRecDepth 100000 in
set_option maxHeartbeats 1000000 in
theorem first1_atI {α : Type} {n : Int} (hn1 : 1 ≤ n) (hn2 : n ≤ 9223372036854775807) {sv : Value} {E : EncR α} {xs : List α} {X C : NSet} {Post : Bool → List α → World → Prop} {W : World} {bn bs : Nat} (hs : SeqOk Try.prog sv E xs X C Post W)
    (hbn : Blk W bn [.int .i64 n] 3) (hbs : Blk W bs [sv] 27) :
    FSeqAt Try.prog (.func (.func 49) #[] #[.pointer (some ⟨bn, 0, none⟩), .pointer (some ⟨bs, 0, none⟩)]) E (xs.take n.toNat) (fun k => X k ∨ k = bs ∨ k = bn) C (FirstPI Post) W := by
  intro tv J Jx F0 htv hJ hJx hF0 ht h0
  obtain ⟨i3, hi3, hz3, hs3, hb3⟩ := info_parts Try.info3
  have hlts := hbs.lt
  have hltn := hbn.lt
  have hlt0 := (hJ []).lt _ _ h0
  have Hrun : Hid (∀ w1, Kept (fun _ => False) W w1 → w1.heap.size = W.heap.size + 2 → Blk w1 W.heap.size [tv] 24 → Blk w1 (W.heap.size + 1) [.int .i64 n] 3 → Calls Try.prog 38 #[sv, .func (.func 50) #[] #[.pointer (some ⟨W.heap.size + 1, 0, none⟩), .pointer (some ⟨W.heap.size, 0, none⟩)]] w1 fun e W' => (∃ u, e = .returned u) ∧ FEnded J Jx (xs.take n.toNat) C (FirstPI Post) F0 W (.returned (.tuple #[])) W') := hide (fun w1 hk1 hz1 hb1 hb2 => by
    have hCt : ∀ j, W.heap.size ≤ j → ¬ C j := fun j hj h => by have := hs.lt _ (.inr h); omega
    refine (each_atI (hs.kept hk1 (fun _ h => h.elim)) (tv := .func (.func 50) #[] #[.pointer (some ⟨W.heap.size + 1, 0, none⟩), .pointer (some ⟨W.heap.size, 0, none⟩)]) (J := FirstJI (FirstAI J n) n tv (W.heap.size + 1) W.heap.size) (Jx := FirstJI (FirstXI J Jx n) n tv (W.heap.size + 1) W.heap.size) (F0 := fun k => F0 k ∨ k = W.heap.size + 1) ⟨_, _, rfl⟩
      (FirstJI.stab (FirstAI.stab hJ) (by omega) ⟨by omega, hCt _ (Nat.le_refl _)⟩) (FirstJI.stab (FirstXI.stab hJ hJx) (by omega) ⟨by omega, hCt _ (Nat.le_refl _)⟩)
      (fun k h => h.elim (fun h => ⟨fun hx => (hF0 k h).1 (.inl hx), (hF0 k h).2⟩) (fun h => ⟨fun hx => by have := hs.lt _ (.inl hx); omega, fun hx => by have := hs.lt _ (.inr hx); omega⟩))
      (firstwI hn2 htv hs.enc hJ ht (by omega) (by omega) (by omega) (by omega) (fun hx => by have := hs.lt _ (.inl hx); omega))
      ⟨F0, rfl, ⟨⟨(hJ []).none h0 hk1, by simp; omega⟩, hb1, fun h => by have := hlt0 _ h; omega⟩, by simpa using hb2, fun h => by have := hlt0 _ h; omega⟩).mono ?_
    rintro e W' ⟨b, rfl, hkW, hcase⟩
    have hkF : Kept (fun k => F0 k ∨ C k) W W' := (hk1.mono (T := fun k => F0 k ∨ C k) (fun _ _ h => h.elim)).trans hkW (fun k hk h => by
      rcases h with (h | h) | h
      · exact .inl h
      · omega
      · exact .inr h)
    have hFo : ∀ (Fi : NSet), (∀ k, (Fi k ∨ k = W.heap.size + 1) → (F0 k ∨ k = W.heap.size + 1) ∨ w1.heap.size ≤ k) → ∀ k, Fi k → F0 k ∨ W.heap.size ≤ k := fun Fi h k hk => by
      rcases h k (.inl hk) with (h | h) | h
      · exact .inl h
      · exact .inr (by omega)
      · exact .inr (by omega)
    refine ⟨⟨_, rfl⟩, ⟨_, rfl⟩, ?_⟩
    rcases hcase with ⟨rfl, F', ⟨Fi, rfl, ⟨⟨h, hl⟩, _⟩, _⟩, hF', hP⟩ | ⟨rfl, pre, F', ⟨post, hpre⟩, ⟨Fi, rfl, ⟨h, _⟩, _⟩, hF', hP⟩
    · refine ⟨true, hkF, .inl ⟨rfl, Fi, ?_, hFo Fi hF', true, ?_⟩⟩ <;> rw [List.take_of_length_le (by omega)]
      · exact h
      · exact hP
    · rcases h with ⟨h, hl⟩ | ⟨h, hl⟩
      · refine ⟨false, hkF, .inr ⟨rfl, pre, Fi, ⟨post.take (n.toNat - pre.length), ?_⟩, h, hFo Fi hF', false, hP⟩⟩
        rw [hpre, List.take_append, List.take_of_length_le (by omega)]
      · have he : xs.take n.toNat = pre := by rw [hpre, List.take_append_of_le_length (by omega), List.take_of_length_le (by omega)]
        refine ⟨true, hkF, .inl ⟨rfl, Fi, ?_, hFo Fi hF', false, ?_⟩⟩ <;> rw [he]
        · exact h
        · exact hP)
  have c0 : W.cell? ⟨bs, 0, none⟩ = some sv := hbs.cell 0
  have c1 : W.cell? ⟨bn, 0, none⟩ = some (.int .i64 n) := hbn.cell 0
  have HBs := hide hbs
  have HBn := hide hbn
  have Hi3 := hide hi3
  have Hz3 := hide hz3
  have Hs3 := hide hs3
  obtain ⟨tf, tl, rfl⟩ := htv
  clear hs hbs hbn hJ hJx hF0 ht h0 hlt0 hi3 hz3 hs3 hb3
  refine .inl ⟨_, _, rfl, enters_of Try.func49 (by kernel_rfl) rfl, ?_⟩
  show Calls Try.prog 49 #[.func tf #[] tl, .pointer (some ⟨bn, 0, none⟩), .pointer (some ⟨bs, 0, none⟩)] W _
  go_enter Try.func49, Try.ntmps49
  go_wp2_with (first
    | ((with_reducible refine aw_box (t := 24) (v := .func tf #[] tl) rfl ?_); intro w1 hb1 hk1 hz1; have c2 : w1.cell? ⟨bn, 0, none⟩ = some (.int .i64 n) := (hk1.blk HBn.out (fun h => h)).cell 0; have Hb1 := hide hb1; have Hz1 := hide hz1; have Hk1 := hide hk1; clear hb1 hz1 hk1 c0 c1)
    | ((with_reducible refine aw_alloc (t := 3) Hi3.out Hz3.out ?_); intro w2 hb2 hk2 hz2; have Hb2 := hide hb2; have Hz2 := hide hz2; have Hk2 := hide hk2; clear hb2 hz2 hk2 c2)
    | (with_reducible refine stop_store 3 ?_))
  refine hide ?_
  refine aw_store1 (v := .int .i64 n) Hi3.out Hs3.out rfl rfl rfl rfl Hb2.out (by simp [Value.cells]) ?_
  intro w3 hb3 hk3 hz3
  have hz1 := Hz1.out
  have hz2 := Hz2.out
  have hk03 : Kept (fun _ => False) W w3 := (Hk1.out.trans Hk2.out (fun _ _ h => h)).trans hk3 (fun k _ h => by omega)
  have c3 : w3.cell? ⟨bs, 0, none⟩ = some sv := (hk03.blk HBs.out (fun h => h)).cell 0
  have Hr1 := hide (Hrun.out w3 hk03 (by omega) (hk3.blk (Hk2.out.blk Hb1.out (fun h => h)) (by omega)) (by rw [← hz1]; exact hb3))
  rw [← hz1] at Hr1
  clear hb3 hk3 hz3 hz1 hz2 hk03 Hrun
  try simp only [put_lit, put_none, List.set_cons_succ, List.set_cons_zero]
  go_wp2_with fail
  refine Hr1.out.mono ?_
  rintro e w4 ⟨⟨u, rfl⟩, ⟨u2, hu2⟩, hend⟩
  have HE := hide hend
  clear hend
  go_wp2
  go_end0
  exact ⟨⟨_, rfl⟩, HE.out⟩
theorem first_okI {α : Type} {n : Int} (hn1 : 1 ≤ n) (hn2 : n ≤ 9223372036854775807) {sv : Value} {E : EncR α} {xs : List α} {X C : NSet} {Post : Bool → List α → World → Prop} {W : World} {bn bs : Nat} (hs : SeqOk Try.prog sv E xs X C Post W)
    (hbn : Blk W bn [.int .i64 n] 3) (hbs : Blk W bs [sv] 27) (hcb : ¬ C bs ∧ ¬ C bn) :
    SeqOk Try.prog (.func (.func 49) #[] #[.pointer (some ⟨bn, 0, none⟩), .pointer (some ⟨bs, 0, none⟩)]) E (xs.take n.toNat) (fun k => X k ∨ k = bs ∨ k = bn) C (FirstPI Post) W := by
  refine ⟨.inl ⟨_, _, rfl⟩, ?_, ?_, ?_, ?_, ?_⟩
  · rintro k ((h | h | h) | h)
    · exact hs.lt k (.inl h)
    · rw [h]; exact hbs.lt
    · rw [h]; exact hbn.lt
    · exact hs.lt k (.inr h)
  · rintro k (h | h | h)
    · exact hs.apart k h
    · rw [h]; exact hcb.1
    · rw [h]; exact hcb.2
  · intro x v G W W' S h hk hS
    exact hs.enc x v G W W' S h hk (fun k h => ⟨(hS k h).1, fun hx => (hS k h).2 (.inl hx)⟩)
  · rintro b pre W W' S ⟨q, h1⟩ hk hS
    exact ⟨q, hs.post _ _ _ _ _ h1 hk hS⟩
  · intro _ W' S hk hS
    exact first1_atI hn1 hn2 (hs.kept hk (fun k h => ⟨fun hx => (hS k h).1 (.inl hx), (hS k h).2⟩))
      (hk.blk hbn (fun h => (hS _ h).1 (.inr (.inr rfl)))) (hk.blk hbs (fun h => (hS _ h).1 (.inr (.inl rfl))))
set_option maxHeartbeats 1000000 in
theorem first_atI (W : World) (sv : Value) (n : Int) (hn1 : 1 ≤ n) (hsv : sv.cells = #[sv]) :
    Calls Try.prog 17 #[sv, .int .i64 n] W fun e W' => ∃ bn bs, e = .returned (.func (.func 49) #[] #[.pointer (some ⟨bn, 0, none⟩), .pointer (some ⟨bs, 0, none⟩)]) ∧ Blk W' bn [.int .i64 n] 3 ∧ Blk W' bs [sv] 27 ∧ Kept (fun _ => False) W W' ∧ W.heap.size ≤ bn ∧ W.heap.size ≤ bs := by
  have Hsv := hide hsv
  clear hsv
  go_enter Try.func17, Try.ntmps17
  go_wp2_with (first
    | ((with_reducible refine aw_box (t := 27) (v := sv) rfl ?_); intro w1 hb1 hk1 hz1; have Hz1 := hide hz1; have Hb1 := hide hb1; have Hk1 := hide hk1; clear hz1 hb1 hk1)
    | ((with_reducible refine aw_box (t := 3) (v := .int .i64 n) rfl ?_); intro w2 hb2 hk2 hz2; have c1 : w2.cell? ⟨w1.heap.size, 0, none⟩ = some (.int .i64 n) := hb2.cell 0; have Hz2 := hide hz2; have Hb2 := hide hb2; have Hk2 := hide hk2; clear hz2 hb2 hk2))
  go_ret
  have hz1 := Hz1.out
  have hb1 := Hb1.out
  rw [Hsv.out] at hb1
  exact ⟨_, _, rfl, Hb2.out, Hk2.out.blk hb1 (fun h => h), Hk1.out.trans Hk2.out (fun _ _ h => h), by omega, Nat.le_refl _⟩
set_option maxHeartbeats 1000000 in
theorem first_lowI (W : World) (sv : Value) (n : Int) (hn : n < 1) : Calls Try.prog 17 #[sv, .int .i64 n] W fun e W' => ∃ b v', e = .returned (.func (.func 43) #[] #[.pointer (some ⟨b, 0, none⟩)]) ∧ Blk W' b [v'] 22 ∧ W'.ownsRow 0 3 1 v' 0 [] ∧ Kept (fun _ => False) W W' ∧ W.heap.size ≤ b ∧ (∀ k, v'.ownBlock = some k → W.heap.size ≤ k) := by
  go_enter Try.func17, Try.ntmps17
  go_wp2_with (first
    | ((with_reducible refine aw_box (t := 27) (v := sv) rfl ?_); intro w1 hb1 hk1 hz1; have Hz1 := hide hz1; have Hk1 := hide hk1; clear hz1 hb1 hk1)
    | ((with_reducible refine aw_box (t := 3) (v := .int .i64 n) rfl ?_); intro w2 hb2 hk2 hz2; have c1 : w2.cell? ⟨w1.heap.size, 0, none⟩ = some (.int .i64 n) := hb2.cell 0; have Hz2 := hide hz2; have Hk2 := hide hk2; clear hz2 hb2 hk2)
    | (go_at_call 11; refine (of_atI w2 (.slice none 0 0) [] ⟨none, 0, rfl, by simp, fun h => by simp at h, fun _ => rfl⟩ (by simp) (by simp)).mono ?_; rintro e w3 ⟨b, v', rfl, h1, h2, h3, h4, h5⟩; have H1 := hide h1; have H2 := hide h2; have H3 := hide h3; have H5 := hide h5; clear h1 h2 h3 h5))
  go_ret
  have hz1 := Hz1.out
  have hz2 := Hz2.out
  exact ⟨b, v', rfl, H1.out, H2.out, (Hk1.out.trans Hk2.out (fun _ _ h => h)).trans H3.out (fun _ _ h => h), by omega, fun k h => by have := H5.out k h; omega⟩
end Go.Proofs.Ytgeffdoepcbhiaa
