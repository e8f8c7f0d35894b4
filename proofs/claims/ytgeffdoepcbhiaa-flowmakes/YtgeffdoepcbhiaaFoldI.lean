/-
  Fold of elements to one of their own type.
-/
import Derived.Test.YtgeffdoepcbhiaaOfI
namespace Go.Proofs.Ytgeffdoepcbhiaa
open Go.RowKit Go.Shelf
set_option linter.unusedSimpArgs false
set_option linter.unusedVariables false
attribute [local go_sem] Oper.semAt_some

/-- What holds while Fold goes through a sequence: K pre u Fu: u is what the elements of pre were folded to, and stands on Fu. -/
def FoldJI {α : Type} (K : List α → Value → NSet → World → Prop) (fv : Value) (bu bf : Nat) (pre : List α) (F : NSet) (W : World) : Prop :=
  ∃ u Fu, F = (fun k => Fu k ∨ k = bu) ∧ K pre u Fu W ∧ (Blk W bu [u] 3 ∧ ¬ Fu bu) ∧ Blk W bf [fv] 62 ∧ ¬ Fu bf
theorem FoldJI.stab {α : Type} {K : List α → Value → NSet → World → Prop} {fv : Value} {bu bf B B' : Nat} {C : NSet} (h : ∀ pre u, Stab B C (K pre u)) (hB : B ≤ B') (hf : bf < B' ∧ ¬ C bf) (pre : List α) : Stab B' C (FoldJI K fv bu bf pre) := by
  refine ⟨?_, ?_⟩
  · rintro F W ⟨u, Fu, rfl, hK, ⟨hb, hn⟩, hbf, hnf⟩ k (h1 | h1)
    · exact (h pre u).lt _ _ hK k h1
    · rw [h1]; exact hb.lt
  · rintro F W W' S ⟨u, Fu, rfl, hK, ⟨hb, hn⟩, hbf, hnf⟩ hk h1 h2
    exact ⟨u, Fu, rfl, (h pre u).kept _ _ _ _ hK hk (fun k hs h3 => h1 k hs (.inl h3)) (fun k hs hl => h2 k hs (by omega)), ⟨hk.blk hb (fun hs => h1 _ hs (.inr rfl)), hn⟩, hk.blk hbf (fun hs => hf.2 (h2 _ hs hf.1)), hnf⟩
/-- What the function does to it. -/
def FoldFnI {α : Type} (E : EncR α) (xs : List α) (B : Nat) (F0 : NSet) (K : List α → Value → NSet → World → Prop) (fv : Value) : Prop :=
  ∀ pre x post u Fu G v W, xs = pre ++ x :: post → K pre u Fu W → B ≤ W.heap.size → (∀ k, Fu k → F0 k ∨ B ≤ k) → E x v G W → (∀ k, G k → ¬ Fu k ∧ B ≤ k ∧ k < W.heap.size) →
    YC Try.prog fv #[u, v] W (fun e W' => ∃ u' Fu', e = .returned u' ∧ K (pre ++ [x]) u' Fu' W' ∧ Kept (fun k => Fu k ∨ G k) W W' ∧ ∀ k, Fu' k → Fu k ∨ G k ∨ W.heap.size ≤ k)

set_option maxRecDepth 100000 in
set_option maxHeartbeats 1000000 in
theorem foldwI {α : Type} {E : EncR α} {xs : List α} {B : Nat} {C F0 : NSet} {K : List α → Value → NSet → World → Prop} {fv : Value} (hfv : IsFn fv) (hSK : ∀ pre u, Stab B C (K pre u)) (hKc : ∀ pre u F W, K pre u F W → u.cells = #[u] ∧ u.oneCell' = true) (ht : FoldFnI E xs B F0 K fv)
    {bu bf B' : Nat} (hB : B ≤ B') (hbu : B ≤ bu ∧ bu < B') (hbf : bf < B') (hne : bu ≠ bf) :
    Takes Try.prog E xs B' (fun k => F0 k ∨ k = bu) (.func (.func 60) #[] #[.pointer (some ⟨bf, 0, none⟩), .pointer (some ⟨bu, 0, none⟩)]) (FoldJI K fv bu bf) (fun _ _ _ => False) := by
  rintro pre x post F G v W hxs ⟨u, Fu, rfl, hK, ⟨hb, hn⟩, hbfb, hnf⟩ hBW hF hEx hG
  obtain ⟨i0, hi0, hz0, hs0, hb0⟩ := info_parts Try.info3
  have hyc := ht pre x post u Fu G v W hxs hK (by omega) (fun k hk => by
    rcases hF k (.inl hk) with (h | h) | h
    · exact .inl h
    · exact .inr (by omega)
    · exact .inr (by omega)) hEx (fun k hk => ⟨fun h => (hG k hk).1 (.inl h), by have := (hG k hk).2; omega⟩)
  have hGu : ¬ G bu := fun h => (hG bu h).1 (.inr rfl)
  have hGf : ¬ G bf := fun h => by have := (hG bf h).2; omega
  have c1 : W.cell? ⟨bf, 0, none⟩ = some fv := hbfb.cell 0
  have c2 : W.cell? ⟨bu, 0, none⟩ = some u := hb.cell 0
  have Hyc := hide hyc
  have Hi0 := hide hi0
  have Hs0 := hide hs0
  have Hb := hide hb
  have Hbf := hide hbfb
  have hltu := hb.lt
  have hltf := hbfb.lt
  have HSK := hide hSK
  have HKc := hide hKc
  obtain ⟨ff, fl, rfl⟩ := hfv
  clear hi0 hz0 hs0 hb0 hyc hb hbfb hG hF hEx hK ht hxs hSK hKc
  refine .inl ⟨_, _, rfl, enters_of Try.func60 (by kernel_rfl) rfl, ?_⟩
  show Calls Try.prog 60 #[v, .pointer (some ⟨bf, 0, none⟩), .pointer (some ⟨bu, 0, none⟩)] W _
  refine (callsIn_wide (n := 4)).1 (callsIn_of_wp Try.func60 rfl trivial ?_ rfl)
  simp only [Try.ntmps60, List.size_toArray, List.length_cons, List.length_nil, Nat.reduceAdd, Nat.reduceSub, Array.replicate_succ, Array.replicate_zero, List.push_toArray, List.append_toArray, List.nil_append, List.cons_append]
  gi_wp2_with (with_reducible refine stopi_val1 ?_)
  refine hide ?_
  try simp only [put_lit, List.set_cons_succ, List.set_cons_zero]
  refine ai_yc (yv := .func ff #[] fl) (vy := u) (vz := v) rfl rfl rfl Hyc.out ?_
  rintro e w2 ⟨u', Fu', rfl, hK2, hk2, hF'⟩
  refine ⟨u', rfl, ?_⟩
  have hbu2 : Blk w2 bu [u] 3 := hk2.blk Hb.out (fun h => h.elim hn hGu)
  have hbf2 := hk2.blk Hbf.out (fun h => h.elim hnf hGf)
  have hn' : ∀ j, j < W.heap.size → ¬ Fu j → ¬ G j → ¬ Fu' j := fun j hj h1 h2 h3 => by
    rcases hF' j h3 with h | h | h
    · exact h1 h
    · exact h2 h
    · omega
  obtain ⟨hc', h1'⟩ := HKc.out _ _ _ _ hK2
  have HK2 := hide hK2
  have Hk2 := hide hk2
  have HF' := hide hF'
  have Hbf2 := hide hbf2
  have hnu2 := hn' bu hltu hn hGu
  have hnf2 := hn' bf hltf hnf hGf
  clear hK2 hk2 hF' hbf2 hn' c1 c2
  try simp only [put_lit, List.set_cons_succ, List.set_cons_zero]
  refine ai_store1 (v := u') Hi0.out Hs0.out rfl rfl hc' h1' hbu2 (by simp) ?_
  intro w3 hb3 hk3 hz3
  have Hb3 := hide hb3
  have Hk3 := hide hk3
  clear hb3 hbu2 hz3 hk3 hc' h1'
  try simp only [put_lit, put_none, List.set_cons_succ, List.set_cons_zero]
  gi_wp2
  go_ret
  refine ⟨fun k => Fu' k ∨ k = bu, .inl ⟨rfl, u', Fu', rfl, (HSK.out _ _).kept _ _ _ _ HK2.out Hk3.out (fun k h1 h2 => hnu2 (h1 ▸ h2)) (fun k h1 h2 => by omega), ⟨Hb3.out, hnu2⟩, Hk3.out.blk Hbf2.out (fun h => hne h.symm), hnf2⟩, ?_, ?_⟩
  · exact (Hk2.out.mono (T := fun k => (Fu k ∨ k = bu) ∨ G k) (fun k _ h => h.elim (fun h => .inl (.inl h)) .inr)).trans Hk3.out (fun k _ h => .inl (.inr h))
  · rintro k (h | h)
    · rcases HF'.out k h with h | h | h
      · exact .inl (.inl h)
      · exact .inr (.inl h)
      · exact .inr (.inr h)
    · exact .inl (.inr h)

theorem eqffI (fn : Fn) (lb : Array Value) (w : World) : (binOp .eql 62 (.func fn #[] lb) .nilFunc).run Try.prog w = .ok (.bool false) w := by
  have h : ∀ d : Nat, (Op.equalIn (d + 1) 62 (.func fn #[] lb) .nilFunc).run Try.prog w = .ok false w := fun d => by
    simp [Op.equalIn, run_underlying Try.underlying62]
  simp only [binOp]
  simp [Op.equal, Op.maxDepth, h 9999]
theorem eqfnI (w : World) : (binOp .eql 62 .nilFunc .nilFunc).run Try.prog w = .ok (.bool true) w := by
  have h : ∀ d : Nat, (Op.equalIn (d + 1) 62 .nilFunc .nilFunc).run Try.prog w = .ok true w := fun d => by
    simp [Op.equalIn, run_underlying Try.underlying62]
  simp only [binOp]
  simp [Op.equal, Op.maxDepth, h 9999]

set_option maxRecDepth 100000 in
set_option maxHeartbeats 1000000 in
theorem fold_atI {α : Type} {sv : Value} {E : EncR α} {xs : List α} {X C : NSet} {Post : Bool → List α → World → Prop} {W : World} (hs : SeqOk Try.prog sv E xs X C Post W) {K : List α → Value → NSet → World → Prop} {fv u0 : Value} {F0 : NSet} (hfv : IsFn fv) (hSK : ∀ pre u, Stab W.heap.size C (K pre u)) (hKc : ∀ pre u F W, K pre u F W → u.cells = #[u] ∧ u.oneCell' = true)
    (ht : FoldFnI E xs W.heap.size F0 K fv) (hF0 : ∀ k, F0 k → ¬ X k ∧ ¬ C k) (h0 : K [] u0 F0 W) :
    Calls Try.prog 33 #[sv, u0, fv] W fun e W' => ∃ u Fu, e = .returned u ∧ K xs u Fu W' ∧ Kept (fun k => F0 k ∨ C k) W W' ∧ (∀ k, Fu k → F0 k ∨ W.heap.size ≤ k) ∧ Post true xs W' := by
  have hlt0 := (hSK [] u0).lt _ _ h0
  have Hrun : Hid (∀ w1, Kept (fun _ => False) W w1 → w1.heap.size = W.heap.size + 2 → Blk w1 W.heap.size [u0] 3 → Blk w1 (W.heap.size + 1) [fv] 62 → Calls Try.prog 38 #[sv, .func (.func 60) #[] #[.pointer (some ⟨W.heap.size + 1, 0, none⟩), .pointer (some ⟨W.heap.size, 0, none⟩)]] w1 fun e W' => (∃ b, e = .returned (.bool b)) ∧ ∃ u Fu, Blk W' W.heap.size [u] 3 ∧ K xs u Fu W' ∧ Kept (fun k => F0 k ∨ C k) W W' ∧ (∀ k, Fu k → F0 k ∨ W.heap.size ≤ k) ∧ Post true xs W') := hide (fun w1 hk1 hz1 hb1 hb2 => by
    have hXl : ∀ k, X k ∨ C k → k < W.heap.size := hs.lt
    refine (each_atI (hs.kept hk1 (fun _ h => h.elim)) (tv := .func (.func 60) #[] #[.pointer (some ⟨W.heap.size + 1, 0, none⟩), .pointer (some ⟨W.heap.size, 0, none⟩)]) (J := FoldJI K fv W.heap.size (W.heap.size + 1)) (Jx := fun _ _ _ => False) (F0 := fun k => F0 k ∨ k = W.heap.size) ⟨_, _, rfl⟩
      (FoldJI.stab hSK (by omega) ⟨by omega, fun h => by have := hXl _ (.inr h); omega⟩) (fun _ => ⟨fun _ _ h => h.elim, fun _ _ _ _ h => h.elim⟩)
      (fun k h => h.elim (hF0 k) (fun h => ⟨fun hx => by have := hXl k (.inl hx); omega, fun hx => by have := hXl k (.inr hx); omega⟩)) (foldwI hfv hSK hKc ht (by omega) (by omega) (by omega) (by omega))
      ⟨u0, F0, rfl, (hSK [] u0).none h0 hk1, ⟨hb1, fun h => by have := hlt0 _ h; omega⟩, hb2, fun h => by have := hlt0 _ h; omega⟩).mono ?_
    rintro e W' ⟨b, rfl, hkW, hcase⟩
    refine ⟨⟨_, rfl⟩, ?_⟩
    rcases hcase with ⟨rfl, F', ⟨u, Fu, rfl, h1, h2, h3⟩, hF', hP⟩ | ⟨rfl, pre, F', _, h, _⟩
    · refine ⟨u, Fu, h2.1, h1, (hk1.mono (T := fun k => F0 k ∨ C k) (fun _ _ h => h.elim)).trans hkW (fun k hk h => ?_), fun k h => ?_, hP⟩
      · rcases h with (h | h) | h
        · exact .inl h
        · omega
        · exact .inr h
      · rcases hF' k (.inl h) with (h | h) | h
        · exact .inl h
        · exact .inr (by omega)
        · exact .inr (by omega)
    · exact h.elim)
  obtain ⟨ff, fl, rfl⟩ := hfv
  obtain ⟨hc0, _⟩ := hKc _ _ _ _ h0
  have Hc0 := hide hc0
  clear hs hSK hKc ht hF0 h0 hlt0 hc0
  go_enter Try.func33, Try.ntmps33
  go_wp2_with (first
    | ((with_reducible refine aw_box (t := 3) (v := u0) rfl ?_); intro w1 hb1 hk1 hz1; have Hz1 := hide hz1; have Hb1 := hide hb1; have Hk1 := hide hk1; clear hb1 hz1 hk1)
    | ((with_reducible refine aw_box (t := 62) (v := .func ff #[] fl) rfl ?_); intro w2 hb2 hk2 hz2; have c1 : w2.cell? ⟨w1.heap.size, 0, none⟩ = some (.func ff #[] fl) := hb2.cell 0; have Hz2 := hide hz2; have Hb2 := hide hb2; have Hk2 := hide hk2; clear hb2 hz2 hk2; have hq := eqffI ff fl w2)
    | fail)
  have hb1 := Hb1.out
  rw [Hc0.out] at hb1
  have Hr := Hrun.out w2 (Hk1.out.trans Hk2.out (fun _ _ h => h)) (by have := Hz1.out; have := Hz2.out; omega) (Hk2.out.blk hb1 (fun h => h)) (by rw [← Hz1.out]; exact Hb2.out)
  rw [← Hz1.out] at Hr
  refine Hr.mono ?_
  rintro e w3 ⟨⟨b, rfl⟩, u, Fu, h1, h2, h3, h4, h5⟩
  have c0 : w3.cell? ⟨W.heap.size, 0, none⟩ = some u := h1.cell 0
  have H2 := hide h2
  have H3 := hide h3
  have H4 := hide h4
  have H5 := hide h5
  clear h1 h2 h3 h4 h5 hb1 Hr c1 hq
  go_wp2
  go_ret
  exact ⟨u, Fu, rfl, H2.out, H3.out, H4.out, H5.out⟩
set_option maxHeartbeats 1000000 in
theorem fold_nilI (W : World) (sv u0 : Value) (hu : u0.cells = #[u0]) : Calls Try.prog 33 #[sv, u0, .nilFunc] W fun e W' => e = .returned u0 ∧ Kept (fun _ => False) W W' := by
  have Hu := hide hu
  clear hu
  go_enter Try.func33, Try.ntmps33
  go_wp2_with (first
    | ((with_reducible refine aw_box (t := 3) (v := u0) rfl ?_); intro w1 hb1 hk1 hz1; have Hz1 := hide hz1; have Hb1 := hide hb1; have Hk1 := hide hk1; clear hb1 hz1 hk1)
    | ((with_reducible refine aw_box (t := 62) (v := .nilFunc) rfl ?_); intro w2 hb2 hk2 hz2; have c1 : w2.cell? ⟨w1.heap.size, 0, none⟩ = some .nilFunc := hb2.cell 0; have Hk2 := hide hk2; clear hb2 hz2 hk2; have hq := eqfnI w2; have hb1 := Hb1.out; rw [Hu.out] at hb1; have c0 : w2.cell? ⟨W.heap.size, 0, none⟩ = some u0 := (Hk2.out.blk hb1 (fun h => h)).cell 0; clear hb1))
  go_ret
  exact ⟨rfl, Hk1.out.trans Hk2.out (fun _ _ h => h)⟩
end Go.Proofs.Ytgeffdoepcbhiaa
