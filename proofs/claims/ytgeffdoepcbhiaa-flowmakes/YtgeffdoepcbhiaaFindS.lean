/-
  Find, for elements of one type.
-/
import Derived.Test.YtgeffdoepcbhiaaKeepS
namespace Go.Proofs.Ytgeffdoepcbhiaa
open Go.RowKit Go.Shelf
set_option linter.unusedSimpArgs false
set_option linter.unusedVariables false
attribute [local go_sem] Oper.semAt_some

/-- Nothing was found yet, or one. -/
def FindJS {α : Type} (bf bo : Nat) (pre : List α) (F : NSet) (W : World) : Prop := pre = [] ∧ F = (fun k => k = bf ∨ k = bo) ∧ Blk W bf [.string ⟨#[]⟩] 9 ∧ Blk W bo [.bool false] 4
def FindXS {α : Type} (D : α → Value) (bf bo : Nat) (pre : List α) (F : NSet) (W : World) : Prop := F = (fun k => k = bf ∨ k = bo) ∧ ∃ x, pre = [x] ∧ Blk W bf [D x] 9 ∧ Blk W bo [.bool true] 4
theorem FindJS.stab {α : Type} {bf bo B : Nat} {C : NSet} (pre : List α) : Stab B C (FindJS bf bo pre) := by
  refine ⟨?_, ?_⟩
  · rintro F W ⟨_, rfl, h1, h2⟩ k (rfl | rfl)
    · exact h1.lt
    · exact h2.lt
  · rintro F W W' S ⟨h0, rfl, h1, h2⟩ hk hS _
    exact ⟨h0, rfl, hk.blk h1 (fun h => hS _ h (.inl rfl)), hk.blk h2 (fun h => hS _ h (.inr rfl))⟩
theorem FindXS.stab {α : Type} {D : α → Value} {bf bo B : Nat} {C : NSet} (pre : List α) : Stab B C (FindXS D bf bo pre) := by
  refine ⟨?_, ?_⟩
  · rintro F W ⟨rfl, x, _, h1, h2⟩ k (rfl | rfl)
    · exact h1.lt
    · exact h2.lt
  · rintro F W W' S ⟨rfl, x, h0, h1, h2⟩ hk hS _
    exact ⟨rfl, x, h0, hk.blk h1 (fun h => hS _ h (.inl rfl)), hk.blk h2 (fun h => hS _ h (.inr rfl))⟩

set_option maxRecDepth 100000 in
set_option maxHeartbeats 1000000 in
theorem findwS {α : Type} {D : α → Value} (hD : ∀ x, (D x).cells = #[D x] ∧ (D x).oneCell' = true) {xs : List α} {B : Nat} {F0 : NSet} {bf bo : Nat} (hne : bf ≠ bo) :
    Takes Try.prog (EncD D) xs B F0 (.func (.func 63) #[] #[.pointer (some ⟨bf, 0, none⟩), .pointer (some ⟨bo, 0, none⟩)]) (FindJS bf bo) (FindXS D bf bo) := by
  rintro pre x post F G v W hxs ⟨rfl, rfl, hbf, hbo⟩ hBW hF ⟨rfl, hG0⟩ hG
  obtain ⟨i0, hi0, hz0, hs0, hb0⟩ := info_parts Try.info9
  obtain ⟨i4, hi4, hz4, hs4, hb4⟩ := info_parts Try.info4
  obtain ⟨hc, h1⟩ := hD x
  obtain ⟨u, hu⟩ : ∃ u, u = D x := ⟨_, rfl⟩
  rw [← hu] at hc h1 ⊢
  have Hu := hide hu
  have Hi0 := hide hi0
  have Hs0 := hide hs0
  have Hi4 := hide hi4
  have Hs4 := hide hs4
  have Hbf := hide hbf
  have Hbo := hide hbo
  have Hc := hide hc
  have H1 := hide h1
  clear hi0 hz0 hs0 hb0 hi4 hz4 hs4 hb4 hbf hbo hc h1 hu hG hF
  refine .inl ⟨_, _, rfl, enters_of Try.func63 (by kernel_rfl) rfl, ?_⟩
  show Calls Try.prog 63 #[u, .pointer (some ⟨bf, 0, none⟩), .pointer (some ⟨bo, 0, none⟩)] W _
  go_enter Try.func63, Try.ntmps63
  go_wp2_with (with_reducible refine stop_store 9 ?_)
  refine hide ?_
  refine aw_store1 (v := u) Hi0.out Hs0.out rfl rfl Hc.out H1.out Hbf.out (by simp) ?_
  intro w2 hb2 hk2 hz2
  have Hb2 : Hid (Blk w2 bf [u] 9) := hide hb2
  have Hbo2 := hide (hk2.blk Hbo.out (fun h => hne h.symm))
  have Hk2 := hide hk2
  clear hb2 hk2 hz2
  try simp only [put_lit, put_none, List.set_cons_succ, List.set_cons_zero]
  refine aw_store1 (v := .bool true) Hi4.out Hs4.out rfl rfl rfl rfl Hbo2.out (by simp) ?_
  intro w3 hb3 hk3 hz3
  have Hb3 := hide hb3
  have Hk3 := hide hk3
  clear hb3 hk3 hz3
  try simp only [put_lit, put_none, List.set_cons_succ, List.set_cons_zero]
  go_wp2
  go_ret
  refine ⟨fun k => k = bf ∨ k = bo, .inr ⟨rfl, rfl, x, rfl, ?_, Hb3.out⟩, ?_, fun k h => .inl h⟩
  · rw [← Hu.out]; exact Hk3.out.blk Hb2.out hne
  · exact (Hk2.out.mono (T := fun k => (k = bf ∨ k = bo) ∨ G k) (fun k _ h => .inl (.inl h))).trans Hk3.out (fun k _ h => .inl (.inr h))

theorem filter_lastS {α : Type} {p : α → Bool} {q : List α} {x : α} (h : q.filter p = [x]) (hl : LastPS p q) : ∃ q', q = q' ++ [x] ∧ q'.filter p = [] ∧ p x = true := by
  obtain ⟨q', y, rfl, hy⟩ := hl
  rw [List.filter_append, List.filter_cons_of_pos hy, List.filter_nil] at h
  have h2 : q'.filter p ++ [y] = [] ++ [x] := by simpa using h
  obtain ⟨h3, h4⟩ := List.append_inj' h2 rfl
  cases h4
  exact ⟨q', rfl, h3, hy⟩
/-- What Find tells. -/
def FoundS {α : Type} (p : α → Bool) (D : α → Value) (xs : List α) (Post : Bool → List α → World → Prop) (v : Value) (b : Bool) (W : World) : Prop :=
  (b = false ∧ v = .string ⟨#[]⟩ ∧ xs.filter p = [] ∧ Post true xs W) ∨ (b = true ∧ ∃ q x post, xs = q ++ x :: post ∧ q.filter p = [] ∧ p x = true ∧ v = D x ∧ Post false (q ++ [x]) W)

set_option maxRecDepth 100000 in
set_option maxHeartbeats 1000000 in
theorem find_atS {α : Type} {p : α → Bool} {D : α → Value} (hD : ∀ x, (D x).cells = #[D x] ∧ (D x).oneCell' = true) {sv fv : Value} {xs : List α} {X C Xf : NSet} {Post : Bool → List α → World → Prop} {W : World} (hs : SeqOk Try.prog sv (EncD D) xs X C Post W) (hfv : IsFn fv) (hf : FnOk Try.prog fv (EncD D) Value.bool p Xf W) (hXf : ∀ k, Xf k → k < W.heap.size ∧ ¬ C k) :
    Calls Try.prog 34 #[sv, fv] W fun e W' => ∃ v b, e = .returned (.tuple #[v, .bool b]) ∧ Kept C W W' ∧ FoundS p D xs Post v b W' := by
  obtain ⟨i0, hi0, hz0, hs0, hb0⟩ := info_parts Try.info9
  obtain ⟨i4, hi4, hz4, hs4, hb4⟩ := info_parts Try.info4
  have Hi0 := hide hi0
  have Hz0 := hide hz0
  have Hi4 := hide hi4
  have Hz4 := hide hz4
  have Hs4 := hide hs4
  have Hrun : Hid (∀ w1 bs bi, Kept (fun _ => False) W w1 → W.heap.size + 2 ≤ w1.heap.size → Blk w1 W.heap.size [.string ⟨#[]⟩] 9 → Blk w1 (W.heap.size + 1) [.bool false] 4 → Blk w1 bs [sv] 59 → Blk w1 bi [fv] 61 → W.heap.size + 2 ≤ bs → W.heap.size + 2 ≤ bi →
      Calls Try.prog 61 #[.func (.func 71) #[] #[.pointer (some ⟨bs, 0, none⟩), .pointer (some ⟨bi, 0, none⟩)], .func (.func 63) #[] #[.pointer (some ⟨W.heap.size, 0, none⟩), .pointer (some ⟨W.heap.size + 1, 0, none⟩)]] w1 fun e W' => (∃ u, e = .returned (.bool u)) ∧ ∃ v b, Blk W' W.heap.size [v] 9 ∧ Blk W' (W.heap.size + 1) [.bool b] 4 ∧ Kept C W W' ∧ FoundS p D xs Post v b W') := hide (fun w1 bs bi hk1 hz1 hb1 hb2 hb3 hb4 hls hli => by
    have hXl : ∀ k, X k ∨ C k → k < W.heap.size := hs.lt
    have hks := keep_okS (hs.kept hk1 (fun _ h => h.elim)) hfv (hf.kept hk1 (fun _ h => h.elim)) (fun k h => ⟨by have := (hXf k h).1; omega, (hXf k h).2⟩) hb3 hb4 ⟨fun h => by have := hXl _ (.inr h); omega, fun h => by have := hXl _ (.inr h); omega⟩
    refine (each_atS hks (tv := .func (.func 63) #[] #[.pointer (some ⟨W.heap.size, 0, none⟩), .pointer (some ⟨W.heap.size + 1, 0, none⟩)]) (J := FindJS W.heap.size (W.heap.size + 1)) (Jx := FindXS D W.heap.size (W.heap.size + 1)) (F0 := fun k => k = W.heap.size ∨ k = W.heap.size + 1) ⟨_, _, rfl⟩
      FindJS.stab FindXS.stab (fun k h => ⟨fun hx => ?_, fun hx => by have := hXl k (.inr hx); omega⟩) (findwS hD (by omega)) ⟨rfl, rfl, hb1, hb2⟩).mono ?_
    · rcases hx with hx | hx | hx | hx
      · have := hXl k (.inl hx); omega
      · have := (hXf k hx).1; omega
      · omega
      · omega
    rintro e W' ⟨b, rfl, hkW, hcase⟩
    have hkC : Kept C W W' := (hk1.mono (T := C) (fun _ _ h => h.elim)).trans hkW (fun k hk h => by
      rcases h with h | h
      · omega
      · exact h)
    refine ⟨⟨_, rfl⟩, ?_⟩
    rcases hcase with ⟨rfl, F', ⟨h0, _, h1, h2⟩, _, q, hq, _, hq2, _⟩ | ⟨rfl, pre, F', _, ⟨_, x, rfl, h1, h2⟩, _, q, hq, hq1, _, hq3⟩
    · refine ⟨_, false, h1, h2, hkC, .inl ⟨rfl, rfl, h0, ?_⟩⟩
      rw [← hq2 rfl]; exact hq
    · obtain ⟨hl, post, hpost⟩ := hq3 rfl
      obtain ⟨q', rfl, h3, h4⟩ := filter_lastS hq1 hl
      exact ⟨_, true, h1, h2, hkC, .inr ⟨rfl, q', x, post, by rw [hpost]; simp, h3, h4, rfl, hq⟩⟩)
  have Hsc := hide hs.cells
  have HPo := hide hs.post
  have Hfv := hide hfv
  clear hi0 hz0 hs0 hb0 hi4 hz4 hs4 hb4 hs hf hXf
  obtain ⟨ff, fl, rfl⟩ := hfv
  go_enter Try.func34, Try.ntmps34
  go_wp2_with (first
    | ((with_reducible refine aw_alloc (t := 9) Hi0.out Hz0.out ?_); intro w1 hb1 hk1 hz1; have Hb1 := hide hb1; have Hz1 := hide hz1; have Hk1 := hide hk1; clear hb1 hz1 hk1)
    | ((with_reducible refine aw_alloc (t := 4) Hi4.out Hz4.out ?_); intro w2 hb2 hk2 hz2; have Hb2 := hide hb2; have Hz2 := hide hz2; have Hk2 := hide hk2; clear hb2 hz2 hk2)
    | (with_reducible refine stop_store 4 ?_))
  refine hide ?_
  refine aw_store1 (v := .bool false) Hi4.out Hs4.out rfl rfl rfl rfl Hb2.out (by simp [Value.cells]) ?_
  intro w3 hb3 hk3 hz3
  have Hb3 := hide hb3
  have Hk3 := hide hk3
  have Hz3 := hide hz3
  clear hb3 hk3 hz3
  try simp only [put_lit, put_none, List.set_cons_succ, List.set_cons_zero]
  go_wp2_with fail
  refine (keep_atS w3 sv _ Hsc.out Hfv.out).mono ?_
  rintro e w4 ⟨bs, bi, rfl, h1, h2, h3, h4, h5⟩
  have hz1 := Hz1.out
  have hz2 := Hz2.out
  have hz3 := Hz3.out
  have hk04 : Kept (fun _ => False) W w4 := ((Hk1.out.trans Hk2.out (fun _ _ h => h)).trans Hk3.out (fun k _ h => by omega)).trans h3 (fun _ _ h => h)
  have hs4 := h3.size
  have Hr := Hrun.out w4 bs bi hk04 (by omega) (h3.blk (Hk3.out.blk (Hk2.out.blk Hb1.out (fun h => h)) (by omega)) (fun h => h)) (by rw [← hz1]; exact h3.blk Hb3.out (fun h => h)) h1 h2 (by omega) (by omega)
  rw [← hz1] at Hr
  have HR := hide Hr
  clear Hr hk04 hs4 h1 h2 h3 h4 h5 hz1 hz2 hz3 Hrun
  go_wp2_with fail
  refine HR.out.mono ?_
  rintro e w5 ⟨⟨u, rfl⟩, v, b, h1, h2, h3, h4⟩
  have c0 : w5.cell? ⟨W.heap.size, 0, none⟩ = some v := h1.cell 0
  have c1 : w5.cell? ⟨w1.heap.size, 0, none⟩ = some (.bool b) := h2.cell 0
  have H3 := hide h3
  have H4 := hide h4
  clear h1 h2 h3 h4
  go_wp2
  go_quiet (fail)
  go_wp2
  go_ret2
  have hkd : Kept (fun _ => False) w5 (w5.drewN nq) := ⟨rfl, rfl, rfl, Nat.le_refl _, fun _ _ _ => rfl⟩
  refine ⟨v, b, rfl, H3.out.trans hkd (fun _ _ h => h.elim), ?_⟩
  rcases H4.out with ⟨h1, h2, h3, h4⟩ | ⟨h1, q, x, post, h2, h3, h4, h5, h6⟩
  · exact .inl ⟨h1, h2, h3, HPo.out _ _ _ _ _ h4 hkd (fun _ h => h.elim)⟩
  · exact .inr ⟨h1, q, x, post, h2, h3, h4, h5, HPo.out _ _ _ _ _ h6 hkd (fun _ h => h.elim)⟩
end Go.Proofs.Ytgeffdoepcbhiaa
