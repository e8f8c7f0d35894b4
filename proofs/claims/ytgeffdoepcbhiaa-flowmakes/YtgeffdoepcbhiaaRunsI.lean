/-
  Runs, of elements of one type that stand for themselves.
-/
import Derived.Test.YtgeffdoepcbhiaaOfI
import Derived.Test.YtgeffdoepcbhiaaOfL
import Derived.Test.YtgeffdoepcbhiaaRunsM
namespace Go.Proofs.Ytgeffdoepcbhiaa
open Go.RowKit Go.Shelf
set_option linter.unusedSimpArgs false
set_option linter.unusedVariables false
attribute [local go_sem] Oper.semAt_some

/-- What holds while Runs' sequence goes through the one that it is made of: rv holds what is left. -/
def RunsJI {α : Type} (D : α → Value) (B m : Nat) (tv : Value) (br bn bt : Nat) (J : List (List α) → NSet → World → Prop) (pre : List α) (F : NSet) (W : World) : Prop :=
  ∃ Fi rv, F = (fun k => Fi k ∨ k = br ∨ rv.ownBlock = some k) ∧ J (runSt m pre).1 Fi W ∧ (Blk W br [rv] 22 ∧ ¬ Fi br) ∧ W.ownsRow 0 3 1 rv (runSt m pre).2.length ((runSt m pre).2.map D) ∧ (∀ k, rv.ownBlock = some k → B ≤ k ∧ ¬ Fi k ∧ k ≠ br ∧ k ≠ bt) ∧ (Blk W bt [tv] 66 ∧ ¬ Fi bt) ∧ (Blk W bn [.int .i64 (m : Nat)] 3 ∧ ¬ Fi bn)
/-- It was told to end. -/
def RunsXI {α : Type} (m : Nat) (br : Nat) (Jx : List (List α) → NSet → World → Prop) (pre : List α) (F : NSet) (W : World) : Prop :=
  ∃ Fi, F = (fun k => Fi k ∨ k = br) ∧ Jx (runSt m pre).1 Fi W ∧ Blk W br [.slice none 0 0] 22 ∧ ¬ Fi br ∧ (runSt m pre).2 = []
theorem RunsJI.stab {α : Type} {D : α → Value} {m : Nat} {tv : Value} {br bn bt B B' : Nat} {C : NSet} {J : List (List α) → NSet → World → Prop} (h : ∀ pre, Stab B C (J pre)) (hB : B ≤ B') (hn : bn < B' ∧ ¬ C bn) (ht : bt < B' ∧ ¬ C bt) (pre : List α) : Stab B' C (RunsJI D B m tv br bn bt J pre) := by
  refine ⟨?_, ?_⟩
  · rintro F W ⟨Fi, rv, rfl, hJ, ⟨hb, _⟩, ho, _⟩ k (h1 | h1 | h1)
    · exact (h _).lt _ _ hJ k h1
    · rw [h1]; exact hb.lt
    · exact ownsRow_lt ho k h1
  · rintro F W W' S ⟨Fi, rv, rfl, hJ, ⟨hb, hnb⟩, ho, hov, ⟨hbt, hnt⟩, hbn, hnn⟩ hk h1 h2
    exact ⟨Fi, rv, rfl, (h _).kept _ _ _ _ hJ hk (fun k hs h3 => h1 k hs (.inl h3)) (fun k hs hl => h2 k hs (by omega)), ⟨hk.blk hb (fun hs => h1 _ hs (.inr (.inl rfl))), hnb⟩, ownsRow_kept ho hk (fun k h3 hs => h1 k hs (.inr (.inr h3))), hov, ⟨hk.blk hbt (fun hs => ht.2 (h2 _ hs ht.1)), hnt⟩, hk.blk hbn (fun hs => hn.2 (h2 _ hs hn.1)), hnn⟩
theorem RunsXI.stab {α : Type} {m : Nat} {br B B' : Nat} {C : NSet} {Jx : List (List α) → NSet → World → Prop} (h : ∀ pre, Stab B C (Jx pre)) (hB : B ≤ B') (pre : List α) : Stab B' C (RunsXI m br Jx pre) := by
  refine ⟨?_, ?_⟩
  · rintro F W ⟨Fi, rfl, hJ, hb, _⟩ k (h1 | h1)
    · exact (h _).lt _ _ hJ k h1
    · rw [h1]; exact hb.lt
  · rintro F W W' S ⟨Fi, rfl, hJ, hb, hnb, he⟩ hk h1 h2
    exact ⟨Fi, rfl, (h _).kept _ _ _ _ hJ hk (fun k hs h3 => h1 k hs (.inl h3)) (fun k hs hl => h2 k hs (by omega)), hk.blk hb (fun hs => h1 _ hs (.inr rfl)), hnb, he⟩

set_option maxRecDepth 100000 in
set_option maxHeartbeats 1000000 in
theorem runswI {α : Type} {D : α → Value} (hD : ∀ x, (D x).cells = #[D x] ∧ (D x).oneCell' = true) {xs : List α} (hl : xs.length ≤ 1000000) {m : Nat} (hm1 : 1 ≤ m) (hm2 : m ≤ 9223372036854775807) {B : Nat} {F0 C : NSet} {tv : Value} {J Jx : List (List α) → NSet → World → Prop} (htv : IsFn tv) (hSJ : ∀ pre, Stab B C (J pre)) (ht : Takes Try.prog (EncRow 3 D) (runsOf m xs) B F0 tv J Jx)
    {br bn bt B' : Nat} (hB : B ≤ B') (hbr : B ≤ br ∧ br < B') (hbn : bn < B) (hbt : B ≤ bt ∧ bt < B') (hne : br ≠ bt) :
    Takes Try.prog (EncD D) xs B' (fun k => F0 k ∨ k = br) (.func (.func 48) #[] #[.pointer (some ⟨br, 0, none⟩), .pointer (some ⟨bn, 0, none⟩), .pointer (some ⟨bt, 0, none⟩)]) (RunsJI D B m tv br bn bt J) (RunsXI m br Jx) := by
  rintro pre x post F G v W hxs ⟨Fi, rv, rfl, hJ, ⟨hBr, hnr⟩, ho, hov, ⟨hBt, hnt⟩, hBn, hnn⟩ hBW hF ⟨rfl, hG0⟩ hG
  obtain ⟨i0, hi0, hz0, hs0, hb0⟩ := info_parts Try.info3
  obtain ⟨i1, hi1, hz1, hs1, hb1⟩ := info_parts Try.info22
  obtain ⟨hvc, hv1⟩ := hD x
  have hcl : (runSt m pre).2.length < 1000000 := by
    have h1 := runSt_cur m pre
    have h2 : pre.length < xs.length := by rw [hxs]; simp
    omega
  obtain ⟨c, hc⟩ : ∃ c, c = (runSt m pre).2 := ⟨_, rfl⟩
  obtain ⟨d, hd⟩ : ∃ d, d = (runSt m pre).1 := ⟨_, rfl⟩
  have Hles : Hid (c.length + 1 < m → runSt m (pre ++ [x]) = (d, c ++ [x])) := hide (fun h => by rw [hc] at h; rw [runSt_less m pre x h, ← hc, ← hd])
  have Hful : Hid (¬ c.length + 1 < m → runSt m (pre ++ [x]) = (d ++ [c ++ [x]], []) ∧ ∃ d2, runsOf m xs = d ++ (c ++ [x]) :: d2) := hide (fun h => by
    rw [hc] at h
    refine ⟨by rw [runSt_full m pre x h, ← hc, ← hd], ?_⟩
    obtain ⟨d2, h2⟩ := runsOf_full m pre x post h
    exact ⟨d2, by rw [hxs, h2, ← hc, ← hd]⟩)
  rw [← hc] at ho hcl
  rw [← hd] at hJ
  obtain ⟨q, hq⟩ : ∃ q, q = c.length := ⟨_, rfl⟩
  rw [← hq] at ho hcl
  have HB := hide hBr
  have HO := hide ho
  have HOv := hide hov
  have HBt := hide hBt
  have HBn := hide hBn
  have HJ := hide hJ
  have HF := hide hF
  have HSJ := hide hSJ
  have HT := hide ht
  have Hq := hide hq
  have Hi0 := hide hi0
  have Hz0 := hide hz0
  have Hs0 := hide hs0
  have Hb0 := hide hb0
  have Hi1 := hide hi1
  have Hs1 := hide hs1
  have Hvc := hide hvc
  have Hv1 := hide hv1
  obtain ⟨ao, cc, rfl⟩ := ownsRow_slice ho
  obtain ⟨tf, tl, rfl⟩ := htv
  obtain ⟨u, hu⟩ : ∃ u, u = D x := ⟨_, rfl⟩
  rw [← hu] at Hvc Hv1 ⊢
  have Hu := hide hu
  have c0 : W.cell? ⟨br, 0, none⟩ = some (.slice ao q cc) := hBr.cell 0
  clear hBr ho hov hBt hBn hJ hF hSJ ht hq hi0 hz0 hs0 hb0 hi1 hz1 hs1 hb1 hvc hv1 hu hc hd hG
  refine .inl ⟨_, _, rfl, enters_of Try.func48 (by kernel_rfl) rfl, ?_⟩
  show Calls Try.prog 48 #[u, .pointer (some ⟨br, 0, none⟩), .pointer (some ⟨bn, 0, none⟩), .pointer (some ⟨bt, 0, none⟩)] W _
  refine (callsIn_wide (n := 4)).1 (callsIn_of_wp Try.func48 rfl trivial ?_ rfl)
  simp only [Try.ntmps48, List.size_toArray, List.length_cons, List.length_nil, Nat.reduceAdd, Nat.reduceSub, Array.replicate_succ, Array.replicate_zero, List.push_toArray, List.append_toArray, List.nil_append, List.cons_append]
  gi_wp2_with (with_reducible refine stopi_bs 22 ?_)
  refine hide ?_
  refine wpListIn_run rfl rfl (fun _ => by simp) (run_bs1 Try.underlying22 Hi0.out Hz0.out Hs0.out [u] rfl (by simp) (by simpa using Hvc.out) rfl) ?_
  have hbA := Blk.new W [u] 3
  have hkA : Kept (fun _ => False) W (W.alloc (.cells [u].toArray 3)) := Kept.alloc _ _ _
  have hszA : (W.alloc (.cells [u].toArray 3)).heap.size = W.heap.size + 1 := by simp
  generalize W.alloc (.cells [u].toArray 3) = A1 at hbA hkA hszA
  have hoA := ownsRow_kept HO.out hkA (fun _ _ h => h)
  obtain ⟨rv', A2, hr, h2, h3, h5⟩ := append_row (P := Try.prog) (ty := 22) (u := .slice (some ⟨W.heap.size, 0, none⟩) 1 1) (vs := [u]) Try.underlying22 Hi0.out Hz0.out Hs0.out Hb0.out rfl (by decide) hoA ⟨_, 1, rfl, by simp, fun _ => ⟨_, 0, rfl, by have := hbA.cells 0 1; simpa using this⟩, fun h => by cases h⟩ (by simpa using Hv1.out) (by simp; omega)
  have Hr := hide hr
  have hbA2 : Blk A2 br [.slice ao q cc] 22 := h3.blk (hkA.blk HB.out (fun h => h)) (fun h => (HOv.out _ h).2.2.1 rfl)
  obtain ⟨r, hr1⟩ : ∃ r, r = q + 1 := ⟨_, rfl⟩
  have h2' : A2.ownsRow 0 3 1 rv' r ((c ++ [x]).map D) := by
    rw [hr1, List.map_append, List.map_cons, List.map_nil, ← Hu.out]
    simpa using h2
  obtain ⟨ao', cc', rfl⟩ := ownsRow_slice h2'
  have hbr1 := HB.out.lt
  have hown' : ∀ k, (Value.slice ao' r cc').ownBlock = some k → (Value.slice ao q cc).ownBlock = some k ∨ W.heap.size + 1 = k := fun k h => by
    rcases h5 with h' | h'
    · rw [h'] at h; exact .inl h
    · rw [h'] at h; cases h; exact .inr hszA.symm
  have hov' : ∀ k, (Value.slice ao' r cc').ownBlock = some k → B ≤ k ∧ ¬ Fi k ∧ k ≠ br ∧ k ≠ bt := fun k h => by
    rcases hown' k h with h | h
    · exact HOv.out k h
    · refine ⟨by omega, fun hf => ?_, by omega, by have := HBt.out.lt; omega⟩
      have := (HSJ.out _).lt _ _ HJ.out k hf
      omega
  have hkA2 : Kept (fun k => (Value.slice ao q cc).ownBlock = some k) W A2 := (hkA.mono (T := fun k => (Value.slice ao q cc).ownBlock = some k) (fun _ _ h => h.elim)).trans h3 (fun _ _ h => h)
  have hJA2 := (HSJ.out _).kept _ _ _ _ HJ.out hkA2 (fun k h => (HOv.out k h).2.1) (fun k h hl => by have := (HOv.out k h).1; omega)
  have H2 := hide h2'
  have Hown := hide hown'
  have Hov' := hide hov'
  have HbA2 := hide hbA2
  have HkA2 := hide hkA2
  have HJA2 := hide hJA2
  have HszA := hide hszA
  have Hr1 := hide hr1
  have hr2 : r ≤ 1000000 := by omega
  clear hbA hkA hszA hoA hr h2 h2' h3 h5 hbA2 hkA2 hJA2 hown' hov' c0 hr1
  try simp only [put_lit, List.set_cons_succ, List.set_cons_zero]
  refine wpListIn_run rfl rfl (fun _ => by simp) (r_app rfl rfl Hr.out) ?_
  try simp only [put_lit, List.set_cons_succ, List.set_cons_zero]
  refine ai_store1 (v := .slice ao' r cc') Hi1.out Hs1.out rfl rfl rfl rfl HbA2.out (by simp) ?_
  intro w3 hb3 hk3 hz3
  have hk03 : Kept (fun k => k = br ∨ (Value.slice ao q cc).ownBlock = some k) W w3 := (HkA2.out.mono (T := fun k => k = br ∨ (Value.slice ao q cc).ownBlock = some k) (fun _ _ h => .inr h)).trans hk3 (fun _ _ h => .inl h)
  have hBt3 := hk03.blk HBt.out (fun h => h.elim (fun h => hne h.symm) (fun h => (HOv.out _ h).2.2.2 rfl))
  have hBn3 := hk03.blk HBn.out (fun h => h.elim (fun h => by omega) (fun h => by have := (HOv.out _ h).1; omega))
  have hJ3 := (HSJ.out _).kept _ _ _ _ HJA2.out hk3 (fun k h1 h2 => hnr (h1 ▸ h2)) (fun k h1 h2 => by omega)
  have ho3 := ownsRow_kept H2.out hk3 (fun k h1 h2 => (Hov'.out k h1).2.2.1 h2)
  have c0 : w3.cell? ⟨br, 0, none⟩ = some (.slice ao' r cc') := hb3.cell 0
  have c1 : w3.cell? ⟨bn, 0, none⟩ = some (.int .i64 (m : Nat)) := hBn3.cell 0
  have Hb3 : Hid (Blk w3 br [.slice ao' r cc'] 22) := hide hb3
  have Hk03 := hide hk03
  have HBt3 := hide hBt3
  have HBn3 := hide hBn3
  have HJ3 := hide hJ3
  have HO3 := hide ho3
  clear hb3 hk3 hz3 hk03 hBt3 hBn3 hJ3 ho3 Hr HbA2 HkA2 HJA2
  try simp only [put_lit, put_none, List.set_cons_succ, List.set_cons_zero]
  have hrq : c.length + 1 = r := by have := Hr1.out; have := Hq.out; omega
  by_cases hlt : r < m
  · have hst := Hles.out (by omega)
    have Hfin : Hid (Handed (RunsJI D B m (.func tf #[] tl) br bn bt J) (RunsXI m br Jx) (pre ++ [x]) (fun k => Fi k ∨ k = br ∨ (Value.slice ao q cc).ownBlock = some k) G W (.returned (.bool true)) w3) := hide ⟨fun k => Fi k ∨ k = br ∨ (Value.slice ao' r cc').ownBlock = some k, .inl ⟨rfl, Fi, _, rfl, by rw [hst]; exact HJ3.out, ⟨Hb3.out, hnr⟩, by rw [hst, List.length_append]; simpa [hrq] using HO3.out, Hov'.out, ⟨HBt3.out, hnt⟩, HBn3.out, hnn⟩, Hk03.out.mono (fun k _ h => h.elim (fun h => .inl (.inr (.inl h))) (fun h => .inl (.inr (.inr h)))), by
      rintro k (h | h | h)
      · exact .inl (.inl h)
      · exact .inl (.inr (.inl h))
      · rcases Hown.out k h with h | h
        · exact .inl (.inr (.inr h))
        · exact .inr (.inr (by omega))⟩
    clear hst HJ3 HO3 HBt3 HBn3 Hb3 Hk03 hrq
    gi_wp2
    go_ret
    exact Hfin.out
  · obtain ⟨hst, d2, hd2⟩ := Hful.out (by omega)
    have Hst := hide hst
    have Hd2 := hide hd2
    have Hrq := hide hrq
    clear hst hd2 hrq
    gi_wp2_with (with_reducible refine stopi_store 22 ?_)
    refine hide ?_
    refine ai_store1 (v := .slice none 0 0) Hi1.out Hs1.out rfl rfl rfl rfl Hb3.out (by simp) ?_
    intro w4 hb4 hk4 hz4
    have hk04 : Kept (fun k => k = br ∨ (Value.slice ao q cc).ownBlock = some k) W w4 := Hk03.out.trans hk4 (fun _ _ h => .inl h)
    have hJ4 := (HSJ.out _).kept _ _ _ _ HJ3.out hk4 (fun k h1 h2 => hnr (h1 ▸ h2)) (fun k h1 h2 => by omega)
    have ho4 := ownsRow_kept HO3.out hk4 (fun k h1 h2 => (Hov'.out k h1).2.2.1 h2)
    have hBt4 := hk4.blk HBt3.out (fun h => hne h.symm)
    have hBn4 := hk4.blk HBn3.out (fun h => by omega)
    have c2 : w4.cell? ⟨bt, 0, none⟩ = some (.func tf #[] tl) := hBt4.cell 0
    have hs4 := hk04.size
    have hlt4 := ownsRow_lt ho4
    have hyc := HT.out d (c ++ [x]) d2 Fi (fun k => (Value.slice ao' r cc').ownBlock = some k) (.slice ao' r cc') w4 Hd2.out hJ4 (by omega) (fun k hk => by
      rcases HF.out k (.inl hk) with (h | h) | h
      · exact .inl h
      · exact .inr (by omega)
      · exact .inr (by omega)) ⟨by rw [List.length_append]; simpa [Hrq.out] using ho4, fun k => Iff.rfl⟩ (fun k hk => ⟨(Hov'.out k hk).2.1, (Hov'.out k hk).1, hlt4 k hk⟩)
    have Hyc := hide hyc
    have Hb4 : Hid (Blk w4 br [.slice none 0 0] 22) := hide hb4
    have Hk04 := hide hk04
    have HBt4 := hide hBt4
    have HBn4 := hide hBn4
    clear hyc hb4 hk4 hz4 hk04 hJ4 ho4 hBt4 hBn4 hlt4 c0 c1 HJ3 HO3 HBt3 HBn3 Hb3 Hk03
    try simp only [put_lit, put_none, List.set_cons_succ, List.set_cons_zero]
    gi_wp2_with (with_reducible refine stopi_val1 ?_)
    refine hide ?_
    try simp only [put_lit, List.set_cons_succ, List.set_cons_zero]
    refine ai_yc1 (yv := .func tf #[] tl) (vy := .slice ao' r cc') rfl rfl rfl Hyc.out ?_
    rintro e w5 ⟨F', hcase, hk5, hF'⟩
    have hn' : ∀ j, j < W.heap.size → ¬ Fi j → (Value.slice ao' r cc').ownBlock ≠ some j → ¬ F' j := fun j hj h1 h2 h3 => by
      rcases hF' j h3 with h | h | h
      · exact h1 h
      · exact h2 h
      · omega
    have hor : (Value.slice ao' r cc').ownBlock ≠ some br := fun h => (Hov'.out _ h).2.2.1 rfl
    have hot : (Value.slice ao' r cc').ownBlock ≠ some bt := fun h => (Hov'.out _ h).2.2.2 rfl
    have hon : (Value.slice ao' r cc').ownBlock ≠ some bn := fun h => by have := (Hov'.out _ h).1; omega
    have hnr5 := hn' br HB.out.lt hnr hor
    have hb5 := hk5.blk Hb4.out (fun h => h.elim hnr hor)
    have HkF : Hid (Kept (fun k => (Fi k ∨ k = br ∨ (Value.slice ao q cc).ownBlock = some k) ∨ G k) W w5) := hide ((Hk04.out.mono (T := fun k => (Fi k ∨ k = br ∨ (Value.slice ao q cc).ownBlock = some k) ∨ G k) (fun k _ h => h.elim (fun h => .inl (.inr (.inl h))) (fun h => .inl (.inr (.inr h))))).trans hk5 (fun k hk h => by
      rcases h with h | h
      · exact .inl (.inl h)
      · rcases Hown.out k h with h | h
        · exact .inl (.inr (.inr h))
        · omega))
    have hFo : ∀ k, F' k → (Fi k ∨ k = br ∨ (Value.slice ao q cc).ownBlock = some k) ∨ G k ∨ W.heap.size ≤ k := fun k h => by
      rcases hF' k h with h | h | h
      · exact .inl (.inl h)
      · rcases Hown.out k h with h | h
        · exact .inl (.inr (.inr h))
        · exact .inr (.inr (by omega))
      · exact .inr (.inr (by omega))
    rcases hcase with ⟨rfl, hJ5⟩ | ⟨rfl, hJ5⟩
    · have Hfin : Hid (Handed (RunsJI D B m (.func tf #[] tl) br bn bt J) (RunsXI m br Jx) (pre ++ [x]) (fun k => Fi k ∨ k = br ∨ (Value.slice ao q cc).ownBlock = some k) G W (.returned (.bool true)) w5) := hide ⟨fun k => F' k ∨ k = br ∨ (Value.slice none 0 0).ownBlock = some k, .inl ⟨rfl, F', _, rfl, by rw [Hst.out]; exact hJ5, ⟨hb5, hnr5⟩, by rw [Hst.out]; exact World.ownsRow_nil _ _ _ _, (fun k h => by simp [Value.ownBlock] at h), ⟨hk5.blk HBt4.out (fun h => h.elim hnt hot), hn' bt HBt.out.lt hnt hot⟩, hk5.blk HBn4.out (fun h => h.elim hnn hon), hn' bn HBn.out.lt hnn hon⟩, HkF.out, by
        rintro k (h | h | h)
        · exact hFo k h
        · exact .inl (.inr (.inl h))
        · simp [Value.ownBlock] at h⟩
      clear hJ5 hF' hk5 hn' hb5 HkF hFo c2
      refine ⟨_, rfl, ?_⟩
      try simp only [put_lit, List.set_cons_succ, List.set_cons_zero]
      gi_wp2
      go_ret
      exact Hfin.out
    · have Hfin : Hid (Handed (RunsJI D B m (.func tf #[] tl) br bn bt J) (RunsXI m br Jx) (pre ++ [x]) (fun k => Fi k ∨ k = br ∨ (Value.slice ao q cc).ownBlock = some k) G W (.returned (.bool false)) w5) := hide ⟨fun k => F' k ∨ k = br, .inr ⟨rfl, F', rfl, by rw [Hst.out]; exact hJ5, hb5, hnr5, by rw [Hst.out]⟩, HkF.out, by
        rintro k (h | h)
        · exact hFo k h
        · exact .inl (.inr (.inl h))⟩
      clear hJ5 hF' hk5 hn' hb5 HkF hFo c2
      refine ⟨_, rfl, ?_⟩
      try simp only [put_lit, List.set_cons_succ, List.set_cons_zero]
      gi_wp2
      go_ret
      exact Hfin.out

set_option maxRecDepth 100000 in
set_option maxHeartbeats 1000000 in
theorem runs1_atI {α : Type} {D : α → Value} (hD : ∀ x, (D x).cells = #[D x] ∧ (D x).oneCell' = true) {m : Nat} (hm1 : 1 ≤ m) (hm2 : m ≤ 9223372036854775807) {sv : Value} {xs : List α} (hl : xs.length ≤ 1000000) {X C : NSet} {Post : Bool → List α → World → Prop} {W : World} {bn bs : Nat} (hs : SeqOk Try.prog sv (EncD D) xs X C Post W)
    (hbn : Blk W bn [.int .i64 (m : Nat)] 3) (hbs : Blk W bs [sv] 27) (hcn : ¬ C bn) :
    FSeqAt Try.prog (.func (.func 47) #[] #[.pointer (some ⟨bs, 0, none⟩), .pointer (some ⟨bn, 0, none⟩)]) (EncRow 3 D) (runsOf m xs) (fun k => X k ∨ k = bs ∨ k = bn) C (fun _ _ _ => True) W := by
  intro tv J Jx F0 htv hJ hJx hF0 ht h0
  obtain ⟨i1, hi1, hz1, hs1, hb1⟩ := info_parts Try.info22
  have hlts := hbs.lt
  have hltn := hbn.lt
  have hlt0 := (hJ []).lt _ _ h0
  obtain ⟨bt, hbt⟩ : ∃ bt, bt = W.heap.size := ⟨_, rfl⟩
  obtain ⟨br, hbr⟩ : ∃ br, br = W.heap.size + 1 := ⟨_, rfl⟩
  have Hrun : Hid (∀ w1, Kept (fun _ => False) W w1 → w1.heap.size = W.heap.size + 2 → Blk w1 bt [tv] 66 → Blk w1 br [.slice none 0 0] 22 → Calls Try.prog 38 #[sv, .func (.func 48) #[] #[.pointer (some ⟨br, 0, none⟩), .pointer (some ⟨bn, 0, none⟩), .pointer (some ⟨bt, 0, none⟩)]] w1 fun e W' => (∃ u, e = .returned (.bool u)) ∧ Kept (fun k => F0 k ∨ C k) W W' ∧
      ((∃ ao cc, Blk W' br [.slice ao 0 cc] 22 ∧ FEnded J Jx (runsOf m xs) C (fun _ _ _ => True) F0 W (.returned (.tuple #[])) W') ∨
       (∃ ao q cc Fi, 0 < q ∧ q ≤ 1000000 ∧ Blk W' br [.slice ao q cc] 22 ∧ Blk W' bt [tv] 66 ∧ YC Try.prog tv #[.slice ao q cc] W' (fun e W'' => (∃ u, e = .returned u) ∧ FEnded J Jx (runsOf m xs) C (fun _ _ _ => True) F0 W (.returned (.tuple #[])) W'') ∧ Fi = F0))) := hide (fun w1 hk1 hz1 hb1 hb2 => by
    have hCt : ∀ j, W.heap.size ≤ j → ¬ C j := fun j hj h => by have := hs.lt _ (.inr h); omega
    refine (each_atI (hs.kept hk1 (fun _ h => h.elim)) (tv := .func (.func 48) #[] #[.pointer (some ⟨br, 0, none⟩), .pointer (some ⟨bn, 0, none⟩), .pointer (some ⟨bt, 0, none⟩)]) (J := RunsJI D W.heap.size m tv br bn bt J) (Jx := RunsXI m br Jx) (F0 := fun k => F0 k ∨ k = br) ⟨_, _, rfl⟩
      (RunsJI.stab hJ (by omega) ⟨by omega, hcn⟩ ⟨by omega, hCt _ (by omega)⟩) (RunsXI.stab hJx (by omega))
      (fun k h => h.elim (fun h => ⟨fun hx => (hF0 k h).1 (.inl hx), (hF0 k h).2⟩) (fun h => ⟨fun hx => by have := hs.lt _ (.inl hx); omega, fun hx => by have := hs.lt _ (.inr hx); omega⟩))
      (runswI hD hl hm1 hm2 htv hJ ht (by omega) (by omega) (by omega) (by omega) (by omega))
      ⟨F0, .slice none 0 0, by
        funext k
        simp [Value.ownBlock], (hJ []).none h0 hk1, ⟨hb2, fun h => by have := hlt0 _ h; omega⟩, World.ownsRow_nil _ _ _ _, (fun k h => by simp [Value.ownBlock] at h), ⟨hb1, fun h => by have := hlt0 _ h; omega⟩, hk1.blk hbn (fun h => h), fun h => (hF0 _ h).1 (.inr (.inr rfl))⟩).mono ?_
    rintro e W' ⟨b, rfl, hkW, hcase⟩
    have hkF : Kept (fun k => F0 k ∨ C k) W W' := (hk1.mono (T := fun k => F0 k ∨ C k) (fun _ _ h => h.elim)).trans hkW (fun k hk h => by
      rcases h with (h | h) | h
      · exact .inl h
      · omega
      · exact .inr h)
    refine ⟨⟨_, rfl⟩, hkF, ?_⟩
    rcases hcase with ⟨rfl, F', ⟨Fi, rv, rfl, hJ2, ⟨hBr, hnr⟩, ho, hov, ⟨hBt, hnt⟩, hBn, hnn⟩, hF', hP⟩ | ⟨rfl, pre, F', ⟨post, hpre⟩, ⟨Fi, rfl, hJ2, hBr, hnr, hemp⟩, hF', hP⟩
    · have hFo : ∀ k, Fi k → F0 k ∨ W.heap.size ≤ k := fun k hk => by
        rcases hF' k (.inl hk) with (h | h) | h
        · exact .inl h
        · exact .inr (by omega)
        · exact .inr (by omega)
      obtain ⟨ao, cc, rfl⟩ := ownsRow_slice ho
      by_cases h0 : (runSt m xs).2.length = 0
      · rw [h0] at hBr
        have he : runsOf m xs = (runSt m xs).1 := by unfold runsOf; rw [if_pos h0]; simp
        refine .inl ⟨ao, cc, hBr, ⟨_, rfl⟩, true, hkF, .inl ⟨rfl, Fi, ?_, hFo, trivial⟩⟩
        rw [he]; exact hJ2
      · have he : runsOf m xs = (runSt m xs).1 ++ (runSt m xs).2 :: [] := by unfold runsOf; rw [if_neg h0]
        have hlen := runSt_cur m xs
        refine .inr ⟨ao, _, cc, F0, by omega, by omega, hBr, hBt, (ht _ _ [] Fi (fun k => (Value.slice ao (runSt m xs).2.length cc).ownBlock = some k) _ W' he hJ2 hkF.size hFo ⟨ho, fun k => Iff.rfl⟩ (fun k hk => ⟨(hov k hk).2.1, (hov k hk).1, ownsRow_lt ho k hk⟩)).mono ?_, rfl⟩
        rintro e W'' ⟨F2, hcase, hk2, hF2⟩
        have hkF2 : Kept (fun k => F0 k ∨ C k) W W'' := hkF.trans hk2 (fun k hk h => by
          rcases h with h | h
          · exact (hFo k h).elim .inl (fun h => by omega)
          · have := (hov k h).1; omega)
        have hFo2 : ∀ k, F2 k → F0 k ∨ W.heap.size ≤ k := fun k hk => by
          have := hkF.size
          rcases hF2 k hk with h | h | h
          · exact hFo k h
          · exact .inr (hov k h).1
          · exact .inr (by omega)
        rcases hcase with ⟨rfl, h⟩ | ⟨rfl, h⟩
        · exact ⟨⟨_, rfl⟩, ⟨_, rfl⟩, true, hkF2, .inl ⟨rfl, F2, by rw [he]; exact h, hFo2, trivial⟩⟩
        · exact ⟨⟨_, rfl⟩, ⟨_, rfl⟩, false, hkF2, .inr ⟨rfl, _, F2, ⟨[], by rw [he]; simp⟩, h, hFo2, trivial⟩⟩
    · have hFo : ∀ k, Fi k → F0 k ∨ W.heap.size ≤ k := fun k hk => by
        rcases hF' k (.inl hk) with (h | h) | h
        · exact .inl h
        · exact .inr (by omega)
        · exact .inr (by omega)
      obtain ⟨d2, hd2⟩ := runsOf_prefix m pre post hemp
      exact .inl ⟨none, 0, hBr, ⟨_, rfl⟩, false, hkF, .inr ⟨rfl, _, Fi, ⟨d2, by rw [hpre, hd2]⟩, hJ2, hFo, trivial⟩⟩)
  have c0 : W.cell? ⟨bs, 0, none⟩ = some sv := hbs.cell 0
  have HBs := hide hbs
  have Hi1 := hide hi1
  have Hz1 := hide hz1
  have Hbt := hide hbt
  have Hbr := hide hbr
  obtain ⟨tf, tl, rfl⟩ := htv
  clear hs hbs hbn hJ hJx hF0 ht h0 hlt0 hi1 hz1 hs1 hb1 hcn hbt hbr
  refine .inl ⟨_, _, rfl, enters_of Try.func47 (by kernel_rfl) rfl, ?_⟩
  show Calls Try.prog 47 #[.func tf #[] tl, .pointer (some ⟨bs, 0, none⟩), .pointer (some ⟨bn, 0, none⟩)] W _
  refine (callsIn_wide (n := 4)).1 (callsIn_of_wp Try.func47 rfl trivial ?_ rfl)
  simp only [Try.ntmps47, List.size_toArray, List.length_cons, List.length_nil, Nat.reduceAdd, Nat.reduceSub, Array.replicate_succ, Array.replicate_zero, List.push_toArray, List.append_toArray, List.nil_append, List.cons_append]
  gi_wp2_with (first
    | ((with_reducible refine ai_box (t := 66) (v := .func tf #[] tl) rfl ?_); intro w1 hb1 hk1 hz1; have Hb1 := hide hb1; have Hz1' := hide hz1; have Hk1 := hide hk1; clear hb1 hz1 hk1)
    | (with_reducible refine stopi_alloc 22 ?_))
  refine hide ?_
  refine ai_alloc Hi1.out Hz1.out ?_
  intro w2 hb2 hk2 hz2
  have hz1 := Hz1'.out
  have hk02 : Kept (fun _ => False) W w2 := Hk1.out.trans hk2 (fun _ _ h => h)
  have c3 : w2.cell? ⟨bs, 0, none⟩ = some sv := (hk02.blk HBs.out (fun h => h)).cell 0
  have Hr1 := hide (Hrun.out w2 hk02 (by omega) (by rw [Hbt.out]; exact hk2.blk Hb1.out (fun h => h)) (by rw [Hbr.out, ← hz1]; exact hb2))
  rw [← Hbt.out, hz1, ← Hbr.out]
  clear hb2 hk2 hz2 hz1 hk02 Hrun c0
  try simp only [put_lit, put_none, List.set_cons_succ, List.set_cons_zero]
  gi_wp2_with fail
  refine ⟨trivial, callsIn_wide.2 (Hr1.out.mono ?_)⟩
  rintro e w3 ⟨⟨u, rfl⟩, hk3, (⟨ao, cc, h1, h2⟩ | ⟨ao, q, cc, Fi, hq0, hq1, h1, h2, h3, _⟩)⟩
  · have c1 : w3.cell? ⟨br, 0, none⟩ = some (.slice ao 0 cc) := h1.cell 0
    have H2 := hide h2
    clear h1 h2 hk3
    gi_wp2
    go_end0
    exact ⟨⟨_, rfl⟩, H2.out.2⟩
  · have c1 : w3.cell? ⟨br, 0, none⟩ = some (.slice ao q cc) := h1.cell 0
    have c2 : w3.cell? ⟨bt, 0, none⟩ = some (.func tf #[] tl) := h2.cell 0
    have H3 := hide h3
    clear h1 h2 h3 hk3
    gi_wp2_with (with_reducible refine stopi_val1 ?_)
    refine hide ?_
    try simp only [put_lit, List.set_cons_succ, List.set_cons_zero]
    refine ai_yc1 (yv := .func tf #[] tl) (vy := .slice ao q cc) rfl rfl rfl H3.out ?_
    rintro e w4 ⟨⟨u, rfl⟩, h4⟩
    have H4 := hide h4
    clear h4 c1 c2
    refine ⟨_, rfl, ?_⟩
    try simp only [put_lit, List.set_cons_succ, List.set_cons_zero]
    gi_wp2
    go_end0
    exact ⟨⟨_, rfl⟩, H4.out.2⟩
theorem runs_okI {α : Type} {D : α → Value} (hD : ∀ x, (D x).cells = #[D x] ∧ (D x).oneCell' = true) {m : Nat} (hm1 : 1 ≤ m) (hm2 : m ≤ 9223372036854775807) {sv : Value} {xs : List α} (hl : xs.length ≤ 1000000) {X C : NSet} {Post : Bool → List α → World → Prop} {W : World} {bn bs : Nat} (hs : SeqOk Try.prog sv (EncD D) xs X C Post W)
    (hbn : Blk W bn [.int .i64 (m : Nat)] 3) (hbs : Blk W bs [sv] 27) (hcb : ¬ C bs ∧ ¬ C bn) :
    SeqOk Try.prog (.func (.func 47) #[] #[.pointer (some ⟨bs, 0, none⟩), .pointer (some ⟨bn, 0, none⟩)]) (EncRow 3 D) (runsOf m xs) (fun k => X k ∨ k = bs ∨ k = bn) C (fun _ _ _ => True) W := by
  refine ⟨.inl ⟨_, _, rfl⟩, ?_, ?_, EncRow.ok _ _ _, fun _ _ _ _ _ _ _ _ => trivial, ?_⟩
  · rintro k ((h | h | h) | h)
    · exact hs.lt k (.inl h)
    · rw [h]; exact hbs.lt
    · rw [h]; exact hbn.lt
    · exact hs.lt k (.inr h)
  · rintro k (h | h | h)
    · exact hs.apart k h
    · rw [h]; exact hcb.1
    · rw [h]; exact hcb.2
  · intro _ W' S hk hS
    exact runs1_atI hD hm1 hm2 hl (hs.kept hk (fun k h => ⟨fun hx => (hS k h).1 (.inl hx), (hS k h).2⟩))
      (hk.blk hbn (fun h => (hS _ h).1 (.inr (.inr rfl)))) (hk.blk hbs (fun h => (hS _ h).1 (.inr (.inl rfl)))) hcb.2
set_option maxHeartbeats 1000000 in
theorem runs_atI (W : World) (sv : Value) (n : Int) (hn1 : 1 ≤ n) (hsv : sv.cells = #[sv]) :
    Calls Try.prog 13 #[sv, .int .i64 n] W fun e W' => ∃ bn bs, e = .returned (.func (.func 47) #[] #[.pointer (some ⟨bs, 0, none⟩), .pointer (some ⟨bn, 0, none⟩)]) ∧ Blk W' bn [.int .i64 n] 3 ∧ Blk W' bs [sv] 27 ∧ Kept (fun _ => False) W W' ∧ W.heap.size ≤ bn ∧ W.heap.size ≤ bs := by
  have Hsv := hide hsv
  clear hsv
  go_enter Try.func13, Try.ntmps13
  go_wp2_with (first
    | ((with_reducible refine aw_box (t := 27) (v := sv) rfl ?_); intro w1 hb1 hk1 hz1; have Hz1 := hide hz1; have Hb1 := hide hb1; have Hk1 := hide hk1; clear hz1 hb1 hk1)
    | ((with_reducible refine aw_box (t := 3) (v := .int .i64 n) rfl ?_); intro w2 hb2 hk2 hz2; have c1 : w2.cell? ⟨w1.heap.size, 0, none⟩ = some (.int .i64 n) := hb2.cell 0; have Hz2 := hide hz2; have Hb2 := hide hb2; have Hk2 := hide hk2; clear hz2 hb2 hk2))
  go_ret
  have hz1 := Hz1.out
  have hb1 := Hb1.out
  rw [Hsv.out] at hb1
  exact ⟨_, _, rfl, Hb2.out, Hk2.out.blk hb1 (fun h => h), Hk1.out.trans Hk2.out (fun _ _ h => h), by omega, Nat.le_refl _⟩
set_option maxHeartbeats 1000000 in
theorem runs_lowI (W : World) (sv : Value) (n : Int) (hn : n < 1) : Calls Try.prog 13 #[sv, .int .i64 n] W fun e W' => ∃ b v', e = .returned (.func (.func 69) #[] #[.pointer (some ⟨b, 0, none⟩)]) ∧ Blk W' b [v'] 46 ∧ W'.ownsRow 0 22 1 v' 0 [] ∧ Kept (fun _ => False) W W' ∧ W.heap.size ≤ b ∧ (∀ k, v'.ownBlock = some k → W.heap.size ≤ k) := by
  go_enter Try.func13, Try.ntmps13
  go_wp2_with (first
    | ((with_reducible refine aw_box (t := 27) (v := sv) rfl ?_); intro w1 hb1 hk1 hz1; have Hz1 := hide hz1; have Hk1 := hide hk1; clear hz1 hb1 hk1)
    | ((with_reducible refine aw_box (t := 3) (v := .int .i64 n) rfl ?_); intro w2 hb2 hk2 hz2; have c1 : w2.cell? ⟨w1.heap.size, 0, none⟩ = some (.int .i64 n) := hb2.cell 0; have Hz2 := hide hz2; have Hk2 := hide hk2; clear hz2 hb2 hk2)
    | (go_at_call 46; refine (of_atL w2 (.slice none 0 0) [] ⟨none, 0, rfl, by simp, fun h => by simp at h, fun _ => rfl⟩ (by simp) (by simp)).mono ?_; rintro e w3 ⟨b, v', rfl, h1, h2, h3, h4, h5⟩; have H1 := hide h1; have H2 := hide h2; have H3 := hide h3; have H5 := hide h5; clear h1 h2 h3 h5))
  go_ret
  have hz1 := Hz1.out
  have hz2 := Hz2.out
  exact ⟨b, v', rfl, H1.out, H2.out, (Hk1.out.trans Hk2.out (fun _ _ h => h)).trans H3.out (fun _ _ h => h), by omega, fun k h => by have := H5.out k h; omega⟩
end Go.Proofs.Ytgeffdoepcbhiaa
