/-
  each, for elements of one type.
-/
import Derived.Test.YtgeffdoepcbhiaaFTypes
namespace Go.Proofs.Ytgeffdoepcbhiaa
open Go.RowKit Go.Shelf
set_option linter.unusedSimpArgs false
set_option linter.unusedVariables false
attribute [local go_sem] Oper.semAt_some

/-- What holds while each goes through a sequence. -/
def EachJS {α : Type} (J : List α → NSet → World → Prop) (bm bo bt : Nat) (tv : Value) (b : Bool) (pre : List α) (F : NSet) (W : World) : Prop :=
  ∃ Fi, F = (fun k => Fi k ∨ k = bm) ∧ ((J pre Fi W ∧ Blk W bo [.bool false] 4 ∧ ¬ Fi bo) ∧ Blk W bt [tv] 61 ∧ ¬ Fi bt) ∧ Blk W bm [.bool b] 4 ∧ ¬ Fi bm
theorem EachJS.stab {α : Type} {J : List α → NSet → World → Prop} {B B' : Nat} {C : NSet} {bm bo bt : Nat} {tv : Value} {b : Bool} (h : ∀ pre, Stab B C (J pre)) (hB : B ≤ B') (ho : bo < B' ∧ ¬ C bo) (ht : bt < B' ∧ ¬ C bt) (pre : List α) : Stab B' C (EachJS J bm bo bt tv b pre) :=
  (((h pre).blk hB ho.1 ho.2).blk (Nat.le_refl _) ht.1 ht.2).own (Nat.le_refl _)

set_option maxRecDepth 100000 in
set_option maxHeartbeats 1000000 in
theorem eachwS {α : Type} {E : EncR α} {xs : List α} {B : Nat} {F0 : NSet} {tv : Value} {J Jx : List α → NSet → World → Prop} {C : NSet} (htv : IsFn tv) (hSJ : ∀ pre, Stab B C (J pre)) (hSx : ∀ pre, Stab B C (Jx pre)) (ht : Takes Try.prog E xs B F0 tv J Jx) {bm bo bt : Nat} (hbm : B ≤ bm) (hmo : bm ≠ bo) (hmt : bm ≠ bt) {B' : Nat} (hB : B ≤ B') (hlm : bm < B' ∧ bo < B' ∧ bt < B') :
    Takes Try.prog E xs B' (fun k => F0 k ∨ k = bm) (.func (.func 70) #[] #[.pointer (some ⟨bm, 0, none⟩), .pointer (some ⟨bo, 0, none⟩), .pointer (some ⟨bt, 0, none⟩)]) (EachJS J bm bo bt tv true) (EachJS Jx bm bo bt tv false) := by
  rintro pre x post F G v W hxs ⟨Fi, rfl, ⟨⟨hJ, hbo, hno⟩, hbt, hnt⟩, hbk, hnm⟩ hBW hF hEx hG
  have hyc := ht pre x post Fi G v W hxs hJ (by omega) (fun k hk => by
    rcases hF k (.inl hk) with (h | h) | h
    · exact .inl h
    · exact .inr (by omega)
    · exact .inr (by omega)) hEx (fun k hk => ⟨fun h => (hG k hk).1 (.inl h), by have := (hG k hk).2; omega⟩)
  have hGm : ¬ G bm := fun h => (hG bm h).1 (.inr rfl)
  have hGo : ¬ G bo := fun h => by have := (hG bo h).2; omega
  have hGt : ¬ G bt := fun h => by have := (hG bt h).2; omega
  obtain ⟨i4, hi4, hz4, hs4, hb4⟩ := info_parts Try.info4
  have c0 : W.cell? ⟨bm, 0, none⟩ = some (.bool true) := hbk.cell 0
  have c1 : W.cell? ⟨bo, 0, none⟩ = some (.bool false) := hbo.cell 0
  have c2 : W.cell? ⟨bt, 0, none⟩ = some tv := hbt.cell 0
  have Hyc := hide hyc
  have Hi4 := hide hi4
  have Hs4 := hide hs4
  have Hbm := hide hbk
  have Hbo := hide hbo
  have Hbt := hide hbt
  have HG := hide hG
  have hltm := hbk.lt
  have hlto := hbo.lt
  have hltt := hbt.lt
  clear hi4 hz4 hs4 hb4 hyc hbk hbo hbt hG hF hEx hJ ht hxs
  refine .inl ⟨_, _, rfl, enters_of Try.func70 (by kernel_rfl) rfl, ?_⟩
  show Calls Try.prog 70 #[v, .pointer (some ⟨bm, 0, none⟩), .pointer (some ⟨bo, 0, none⟩), .pointer (some ⟨bt, 0, none⟩)] W _
  refine (callsIn_wide (n := 4)).1 (callsIn_of_wp Try.func70 rfl trivial ?_ rfl)
  simp only [Try.ntmps70, List.size_toArray, List.length_cons, List.length_nil, Nat.reduceAdd, Nat.reduceSub, Array.replicate_succ, Array.replicate_zero, List.push_toArray, List.append_toArray, List.nil_append, List.cons_append]
  obtain ⟨fn, lb, rfl⟩ := htv
  gi_wp2_with (with_reducible refine stopi_val1 ?_)
  refine hide ?_
  try simp only [put_lit, List.set_cons_succ, List.set_cons_zero]
  refine ai_yc1 (yv := .func fn #[] lb) (vy := v) rfl rfl rfl Hyc.out ?_
  rintro e w2 ⟨F', hcase, hk2, hF'⟩
  have hbm2 : Blk w2 bm [.bool true] 4 := hk2.blk Hbm.out (fun h => h.elim hnm hGm)
  have hbo2 : Blk w2 bo [.bool false] 4 := hk2.blk Hbo.out (fun h => h.elim hno hGo)
  have hbt2 : Blk w2 bt [.func fn #[] lb] 61 := hk2.blk Hbt.out (fun h => h.elim hnt hGt)
  have hn' : ∀ j, j < W.heap.size → ¬ Fi j → ¬ G j → ¬ F' j := fun j hj h1 h2 h3 => by
    rcases hF' j h3 with h | h | h
    · exact h1 h
    · exact h2 h
    · omega
  have hnm2 := hn' bm hltm hnm hGm
  have hno2 := hn' bo hlto hno hGo
  have hnt2 := hn' bt hltt hnt hGt
  have HF' := hide hF'
  have Hk2 := hide hk2
  have Hcase := hide hcase
  have Hbo2 := hide hbo2
  have Hbt2 := hide hbt2
  clear hF' hk2 hcase hn' c0 c1 c2 hbo2 hbt2
  rcases Hcase.out with ⟨rfl, hJ2⟩ | ⟨rfl, hJ2⟩
  · have HJ2 := hide hJ2
    clear hJ2 Hcase
    refine ⟨_, rfl, ?_⟩
    try simp only [put_lit, List.set_cons_succ, List.set_cons_zero]
    refine ai_store1 (v := .bool true) Hi4.out Hs4.out rfl rfl rfl rfl hbm2 (by simp) ?_
    intro w3 hb3 hk3 hz3
    have hb3' : Blk w3 bm [.bool true] 4 := hb3
    have hbo3 : Blk w3 bo [.bool false] 4 := hk3.blk Hbo2.out (fun h => hmo h.symm)
    have c0 : w3.cell? ⟨bm, 0, none⟩ = some (.bool true) := hb3'.cell 0
    have c1 : w3.cell? ⟨bo, 0, none⟩ = some (.bool false) := hbo3.cell 0
    have Hb3 := hide hb3'
    have Hbo3 := hide hbo3
    have Hz3 := hide hz3
    have Hk3 := hide hk3
    clear hb3 hb3' hbo3 hbm2 hz3 hk3
    try simp only [put_lit, put_none, List.set_cons_succ, List.set_cons_zero]
    gi_wp2
    go_ret
    refine ⟨fun k => F' k ∨ k = bm, .inl ⟨rfl, F', rfl, ⟨⟨(hSJ _).kept _ _ _ _ HJ2.out Hk3.out (fun k h1 h2 => hnm2 (h1 ▸ h2)) (fun k h1 h2 => by omega), Hbo3.out, hno2⟩, Hk3.out.blk Hbt2.out (fun h => hmt h.symm), hnt2⟩, Hb3.out, hnm2⟩, ?_, ?_⟩
    · refine (Hk2.out.mono (T := fun k => (Fi k ∨ k = bm) ∨ G k) (fun k _ h => h.elim (fun h => .inl (.inl h)) .inr)).trans Hk3.out (fun k _ h => .inl (.inr h))
    · rintro k (h | h)
      · rcases HF'.out k h with h | h | h
        · exact .inl (.inl h)
        · exact .inr (.inl h)
        · exact .inr (.inr h)
      · exact .inl (.inr h)
  · have HJ2 := hide hJ2
    clear hJ2 Hcase
    refine ⟨_, rfl, ?_⟩
    try simp only [put_lit, List.set_cons_succ, List.set_cons_zero]
    refine ai_store1 (v := .bool false) Hi4.out Hs4.out rfl rfl rfl rfl hbm2 (by simp) ?_
    intro w3 hb3 hk3 hz3
    have hb3' : Blk w3 bm [.bool false] 4 := hb3
    have hbo3 : Blk w3 bo [.bool false] 4 := hk3.blk Hbo2.out (fun h => hmo h.symm)
    have c0 : w3.cell? ⟨bm, 0, none⟩ = some (.bool false) := hb3'.cell 0
    have c1 : w3.cell? ⟨bo, 0, none⟩ = some (.bool false) := hbo3.cell 0
    have Hb3 := hide hb3'
    have Hbo3 := hide hbo3
    have Hz3 := hide hz3
    have Hk3 := hide hk3
    clear hb3 hb3' hbo3 hbm2 hz3 hk3
    try simp only [put_lit, put_none, List.set_cons_succ, List.set_cons_zero]
    gi_wp2
    go_ret
    refine ⟨fun k => F' k ∨ k = bm, .inr ⟨rfl, F', rfl, ⟨⟨(hSx _).kept _ _ _ _ HJ2.out Hk3.out (fun k h1 h2 => hnm2 (h1 ▸ h2)) (fun k h1 h2 => by omega), Hbo3.out, hno2⟩, Hk3.out.blk Hbt2.out (fun h => hmt h.symm), hnt2⟩, Hb3.out, hnm2⟩, ?_, ?_⟩
    · refine (Hk2.out.mono (T := fun k => (Fi k ∨ k = bm) ∨ G k) (fun k _ h => h.elim (fun h => .inl (.inl h)) .inr)).trans Hk3.out (fun k _ h => .inl (.inr h))
    · rintro k (h | h)
      · rcases HF'.out k h with h | h | h
        · exact .inl (.inl h)
        · exact .inr (.inl h)
        · exact .inr (.inr h)
      · exact .inl (.inr h)

theorem eqlnS (w : World) : (binOp .eql 59 .nilFunc .nilFunc).run Try.prog w = .ok (.bool true) w := by
  have h : ∀ d : Nat, (Op.equalIn (d + 1) 59 .nilFunc .nilFunc).run Try.prog w = .ok true w := fun d => by
    simp [Op.equalIn, run_underlying Try.underlying59]
  simp only [binOp]
  simp [Op.equal, Op.maxDepth, h 9999]
theorem eqlfS (fn : Fn) (lb : Array Value) (w : World) : (binOp .eql 59 (.func fn #[] lb) .nilFunc).run Try.prog w = .ok (.bool false) w := by
  have h : ∀ d : Nat, (Op.equalIn (d + 1) 59 (.func fn #[] lb) .nilFunc).run Try.prog w = .ok false w := fun d => by
    simp [Op.equalIn, run_underlying Try.underlying59]
  simp only [binOp]
  simp [Op.equal, Op.maxDepth, h 9999]

/-- Of a nil sequence. -/
theorem each_nilS (tv : Value) (htv : IsFn tv) (W : World) : Calls Try.prog 61 #[.nilFunc, tv] W fun e W' => e = .returned (.bool true) ∧ Kept (fun _ => False) W W' := by
  obtain ⟨tf, tl, rfl⟩ := htv
  go_enter Try.func61, Try.ntmps61
  go_wp2_with ((with_reducible refine aw_box (t := 61) (v := .func tf #[] tl) rfl ?_); intro w1 hb1 hk1 hz1; clear hz1 hb1; have hq := eqlnS w1)
  go_ret
  exact ⟨rfl, hk1⟩
set_option maxRecDepth 100000 in
set_option maxHeartbeats 1000000 in
theorem each_atS {α : Type} {sv : Value} {E : EncR α} {xs : List α} {X C : NSet} {Post : Bool → List α → World → Prop} {W : World} (hs : SeqOk Try.prog sv E xs X C Post W) {tv : Value} {J Jx : List α → NSet → World → Prop} {F0 : NSet}
    (htv : IsFn tv) (hJ : ∀ pre, Stab W.heap.size C (J pre)) (hJx : ∀ pre, Stab W.heap.size C (Jx pre)) (hF0 : ∀ k, F0 k → ¬ X k ∧ ¬ C k) (ht : Takes Try.prog E xs W.heap.size F0 tv J Jx) (h0 : J [] F0 W) :
    Calls Try.prog 61 #[sv, tv] W fun e W' => ∃ b, e = .returned (.bool b) ∧ FEnd J Jx xs C Post F0 W b W' := by
  have HS := hide hs
  have HJ := hide hJ
  have HJx := hide hJx
  have HF0 := hide hF0
  have HT := hide ht
  have H0 := hide h0
  have Htv := hide htv
  have Hfn := hide htv
  rcases hs.fn with hfn | ⟨rfl, rfl, hnil⟩
  case inr =>
    refine (each_nilS tv htv W).mono ?_
    rintro e W' ⟨rfl, hk⟩
    exact ⟨true, rfl, hk.mono (fun _ _ h => h.elim), .inl ⟨rfl, F0, (hJ []).none h0 hk, fun k h => .inl h, hnil W'⟩⟩
  have HRun := hide (hs.run hfn)
  obtain ⟨sf, sl, rfl⟩ := hfn
  obtain ⟨tf, tl, rfl⟩ := htv
  have hq := eqlfS sf sl
  obtain ⟨i4, hi4, hz4, hs4, hb4⟩ := info_parts Try.info4
  have Hi4 := hide hi4
  have Hz4 := hide hz4
  have Hs4 := hide hs4
  clear hi4 hz4 hs4 hb4 hs hJ hJx hF0 ht h0
  refine (callsIn_wide (n := 4)).1 (callsIn_of_wp Try.func61 rfl trivial ?_ rfl)
  simp only [Try.ntmps61, List.size_toArray, List.length_cons, List.length_nil, Nat.reduceAdd, Nat.reduceSub, Array.replicate_succ, Array.replicate_zero, List.push_toArray, List.append_toArray, List.nil_append, List.cons_append]
  gi_wp2_with (first
    | ((with_reducible refine ai_box (t := 61) (v := .func tf #[] tl) rfl ?_); intro w1 hb1 hk1 hz1; have Hz1 := hide hz1; clear hz1; have hq := eqlfS sf sl w1)
    | (with_reducible refine stopi_alloc 4 ?_))
  refine hide ?_
  refine ai_alloc Hi4.out Hz4.out ?_
  intro w2 hb2 hk2 hz2
  refine ai_alloc Hi4.out Hz4.out ?_
  intro w3 hb3 hk3 hz3
  have hz1 := Hz1.out
  refine ai_store1 (v := .bool true) (b := w1.heap.size) Hi4.out Hs4.out rfl rfl rfl rfl (hk3.blk hb2 (fun h => h)) (by simp [Value.cells]) ?_
  intro w4 hb4 hk4 hz4
  refine ai_store1 (v := .bool false) (b := w2.heap.size) Hi4.out Hs4.out rfl rfl rfl rfl (hk4.blk hb3 (by omega)) (by simp [Value.cells]) ?_
  intro w5 hb5 hk5 hz5
  obtain ⟨bm, hbm⟩ : ∃ bm, bm = w1.heap.size := ⟨_, rfl⟩
  obtain ⟨bo, hbo⟩ : ∃ bo, bo = w2.heap.size := ⟨_, rfl⟩
  obtain ⟨bt, hbt⟩ : ∃ bt, bt = W.heap.size := ⟨_, rfl⟩
  have hBm : Blk w5 bm [.bool true] 4 := by rw [hbm]; exact hk5.blk hb4 (by omega)
  have hBo : Blk w5 bo [.bool false] 4 := by rw [hbo]; exact hb5
  have hBt : Blk w5 bt [.func tf #[] tl] 61 := by rw [hbt]; exact hk5.blk (hk4.blk (hk3.blk (hk2.blk hb1 (fun h => h)) (fun h => h)) (by omega)) (by omega)
  have hk05 : Kept (fun _ => False) W w5 := (((hk1.trans hk2 (fun _ _ h => h)).trans hk3 (fun _ _ h => h)).trans hk4 (fun k _ h => by omega)).trans hk5 (fun k _ h => by omega)
  have hlC : ∀ k, X k ∨ C k → k < W.heap.size := HS.out.lt
  have hyc := HRun.out w5 _ hk05 (fun _ h => h.elim) (.func (.func 70) #[] #[.pointer (some ⟨bm, 0, none⟩), .pointer (some ⟨bo, 0, none⟩), .pointer (some ⟨bt, 0, none⟩)])
    (EachJS J bm bo bt (.func tf #[] tl) true) (EachJS Jx bm bo bt (.func tf #[] tl) false) (fun k => F0 k ∨ k = bm) ⟨_, _, rfl⟩
    (EachJS.stab HJ.out (by omega) ⟨by omega, fun h => by have := hlC _ (.inr h); omega⟩ ⟨by omega, fun h => by have := hlC _ (.inr h); omega⟩)
    (EachJS.stab HJx.out (by omega) ⟨by omega, fun h => by have := hlC _ (.inr h); omega⟩ ⟨by omega, fun h => by have := hlC _ (.inr h); omega⟩)
    (fun k hk => hk.elim (HF0.out k) (fun h => ⟨fun hx => by have := hlC _ (.inl hx); omega, fun hx => by have := hlC _ (.inr hx); omega⟩))
    (eachwS ⟨_, _, rfl⟩ HJ.out HJx.out HT.out (by omega) (by omega) (by omega) (by omega) (by omega))
    ⟨F0, rfl, ⟨⟨(HJ.out []).none H0.out hk05, hBo, fun h => by have := (HJ.out []).lt _ _ H0.out _ h; omega⟩, hBt, fun h => by have := (HJ.out []).lt _ _ H0.out _ h; omega⟩, hBm, fun h => by have := (HJ.out []).lt _ _ H0.out _ h; omega⟩
  have Hyc := hide hyc
  have H05 := hide hk05
  have HBC : Hid (∀ k, C k → k < W.heap.size) := hide (fun k h => hlC k (.inr h))
  have hlt0 : Hid (∀ k, F0 k → k < W.heap.size) := hide ((HJ.out []).lt _ _ H0.out)
  have hs5 : w5.heap.size = W.heap.size + 3 := by omega
  have hm1 : bm = W.heap.size + 1 := by omega
  have ho1 : bo = W.heap.size + 2 := by omega
  have Hs5 := hide hs5
  have Hm1 := hide hm1
  have Ho1 := hide ho1
  have Ht1 := hide hbt
  rw [← hbm, ← hbo, ← hbt]
  clear hyc hk05 hlC hs5 hm1 ho1 hbm hbo hbt hBm hBo hBt hb1 hb2 hb3 hb4 hb5 hk1 hk2 hk3 hk4 hk5 hz1 hz2 hz3 hz4 hz5 Hz1 hq
  try simp only [put_lit, put_none, List.set_cons_succ, List.set_cons_zero]
  gi_wp2_with (with_reducible refine stopi_val1 ?_)
  refine hide ?_
  try simp only [put_lit, put_none, List.set_cons_succ, List.set_cons_zero]
  refine ai_yc1 (yv := .func sf #[] sl) (vy := .func (.func 70) #[] #[.pointer (some ⟨bm, 0, none⟩), .pointer (some ⟨bo, 0, none⟩), .pointer (some ⟨bt, 0, none⟩)]) rfl rfl rfl Hyc.out ?_
  rintro e w6 ⟨⟨v, rfl⟩, b, hk6, hcase⟩
  refine ⟨v, rfl, ?_⟩
  have hm1 := Hm1.out
  have ho1 := Ho1.out
  have ht1 := Ht1.out
  have hs5 := Hs5.out
  have hk06 : Kept (fun k => F0 k ∨ C k) W w6 := (H05.out.mono (T := fun k => F0 k ∨ C k) (fun _ _ h => h.elim)).trans hk6 (fun k hk h => by
    rcases h with (h | h) | h
    · exact .inl h
    · omega
    · exact .inr h)
  obtain ⟨Fi, hpb, hbm6, hbo6, hno6⟩ : ∃ Fi : NSet, (∀ w7, Kept (fun k => k = bo) w6 w7 → Kept (fun k => F0 k ∨ C k) W w7 → FEnd J Jx xs C Post F0 W b w7) ∧ Blk w6 bm [.bool b] 4 ∧ Blk w6 bo [.bool false] 4 ∧ ¬ Fi bo := by
    rcases hcase with ⟨rfl, F', ⟨Fi, rfl, ⟨⟨hJ6, hbo6, hno6⟩, hbt6, hnt6⟩, hbm6, hnm6⟩, hF', hP⟩ | ⟨rfl, pre, F', hpre, ⟨Fi, rfl, ⟨⟨hJ6, hbo6, hno6⟩, hbt6, hnt6⟩, hbm6, hnm6⟩, hF', hP⟩
    · refine ⟨Fi, fun w7 hk7 hk07 => ⟨hk07, .inl ⟨rfl, Fi, (HJ.out _).kept _ _ _ _ hJ6 hk7 (fun k h1 h2 => hno6 (h1 ▸ h2)) (fun k h1 h2 => by omega), fun k hk => ?_, HS.out.post _ _ _ _ _ hP hk7 (fun k h1 h2 => by have := HBC.out k h2; omega)⟩⟩, hbm6, hbo6, hno6⟩
      rcases hF' k (.inl hk) with (h | h) | h
      · exact .inl h
      · exact .inr (by omega)
      · exact .inr (by omega)
    · refine ⟨Fi, fun w7 hk7 hk07 => ⟨hk07, .inr ⟨rfl, pre, Fi, hpre, (HJx.out _).kept _ _ _ _ hJ6 hk7 (fun k h1 h2 => hno6 (h1 ▸ h2)) (fun k h1 h2 => by omega), fun k hk => ?_, HS.out.post _ _ _ _ _ hP hk7 (fun k h1 h2 => by have := HBC.out k h2; omega)⟩⟩, hbm6, hbo6, hno6⟩
      rcases hF' k (.inl hk) with (h | h) | h
      · exact .inl h
      · exact .inr (by omega)
      · exact .inr (by omega)
  have Hpb := hide hpb
  have Hk06 := hide hk06
  have hne : bm ≠ bo := by omega
  have Hbm6 := hide hbm6
  have Hbo6 := hide hbo6
  clear hpb hk06 hcase hk6 hm1 ho1 ht1 hs5 hno6 hbm6 hbo6
  try simp only [put_lit, put_none, List.set_cons_succ, List.set_cons_zero]
  gi_wp2_with (with_reducible refine stopi_store 4 ?_)
  refine hide ?_
  refine ai_store1 (v := .bool true) Hi4.out Hs4.out rfl rfl rfl rfl Hbo6.out (by simp) ?_
  intro w7 hb7 hk7 hz7
  have c0 : w7.cell? ⟨bm, 0, none⟩ = some (.bool b) := (hk7.blk Hbm6.out (fun h => hne h)).cell 0
  have Hk7 := hide hk7
  clear hk7 hb7 hz7
  try simp only [put_lit, put_none, List.set_cons_succ, List.set_cons_zero]
  gi_wp2
  go_ret
  refine ⟨b, rfl, Hpb.out w7 Hk7.out (Hk06.out.trans Hk7.out (fun k hk h => by have := Ho1.out; omega))⟩

end Go.Proofs.Ytgeffdoepcbhiaa
