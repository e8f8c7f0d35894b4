/-
  Bytes, of package image.
-/
import Derived.Test.YtakpkibjpjcgbaaIAll
namespace Go.Proofs.Ytakpkibjpjcgbaa
open Go.RowKit Go.Shelf
set_option linter.unusedSimpArgs false
set_option linter.unusedVariables false
set_option maxRecDepth 100000
attribute [local go_sem] Oper.semAt_some

theorem flat_blocks (B : List Nat) : ∀ n, B.length = 64 * n → (List.range n).flatMap (getB B) = B := by
  have key : ∀ k, (List.range k).flatMap (getB B) = B.take (64 * k) := by
    intro k
    induction k with
    | zero => simp
    | succ k ih =>
      rw [List.range_succ, List.flatMap_append, ih, Nat.mul_add, List.take_add]
      simp [getB]
  intro n h
  rw [key, ← h, List.take_length]
theorem flatb_len (B : List Nat) (n : Nat) (h : B.length = 64 * n) {pre post : List Nat} (hp : List.range n = pre ++ post) : (pre.flatMap (getB B)).length ≤ 64 * n := by
  have := congrArg List.length (flat_blocks B n h)
  rw [hp, List.flatMap_append, List.length_append] at this
  omega
/-- What is gathered. -/
def BI (B : List Nat) (ba : Nat) (pre : List Nat) (F : NSet) (W : World) : Prop := ∃ vo : Value, Blk W ba [vo] 41 ∧ Own W 0 vo (pre.flatMap (getB B)) ∧ F = (fun k => k = ba ∨ vo.ownBlock = some k)
theorem BI.stab (B : List Nat) (ba M : Nat) (pre : List Nat) : Stab M (fun _ => False) (BI B ba pre) := by
  refine ⟨?_, ?_⟩
  · rintro F W ⟨vo, hb, ho, rfl⟩ k (h | h)
    · rw [h]; exact hb.lt
    · exact ho.lt k h
  · rintro F W W' S ⟨vo, hb, ho, rfl⟩ hk h1 h2
    exact ⟨vo, hk.blk hb (fun h => h1 _ h (.inl rfl)), ho.kept hk (fun k h h' => h1 k h' (.inr h)), rfl⟩
theorem Own.sl {w : World} {v : Value} {A : List Nat} (h : Own w 0 v A) : ∃ s : Sl, v = .slice s.a s.n s.c := by
  obtain ⟨ao, c, e⟩ := ownsRow_slice h.1
  exact ⟨⟨ao, _, c⟩, e⟩

set_option maxRecDepth 100000 in
set_option maxHeartbeats 4000000 in
theorem bytes_at (w : World) (d : Value) (n : Nat) (B : List Nat) (h : DkAt w d n B) : Calls Try.prog 22 #[d] w fun e w' => ∃ s : Sl, e = .returned (.slice s.a s.n s.c) ∧ OwnN w.heap.size w' s B ∧ Kept (fun _ => False) w w' := by
  obtain ⟨X, hX⟩ := h.l
  have HD := hide h
  have HX := hide hX
  have hlen := h.len
  have hn64 := h.le
  have HLen := hide hlen
  obtain ⟨a0, rfl, _⟩ := h.ptr
  obtain ⟨i28, hi28, hz28, hs28, hb28⟩ := info_parts Try.info41
  have Hi28 := hide hi28
  have Hz28 := hide hz28
  have Hs28 := hide hs28
  clear h hX hlen hi28 hz28 hs28 hb28
  refine (callsIn_wide (n := 4)).1 (callsIn_of_wp_marks Try.func22 rfl trivial (wpIn_wide.2 ?_) rfl)
  simp only [Try.ntmps22, List.size_toArray, List.length_cons, List.length_nil, Nat.reduceAdd, Nat.reduceSub, Array.replicate_succ, Array.replicate_zero, List.push_toArray, List.append_toArray, List.nil_append, List.cons_append]
  go_wp2_with (first
    | ((with_reducible refine aw_alloc (t := 41) Hi28.out Hz28.out ?_); intro w1 hb1 hk1 hz1; have Hb1 := hide hb1; have Hk1 := hide hk1; have Hz1 := hide hz1; clear hb1 hk1 hz1)
    | (go_at_call 44; refine (all_at _ _ n B (HD.out.kept Hk1.out)).mono ?_; rintro e w2 ⟨e0, rfl, hb2, he0, hk2⟩; have Hb2 := hide hb2; have He0 := hide he0; have Hk2 := hide hk2; clear hb2 he0 hk2))
  have HKw2 := hide (Hk1.out.trans Hk2.out (fun _ _ h => h))
  have HX2 := hide (HX.out.kept HKw2.out (fun _ h => h.elim))
  have HS := hide (all1_ok HX2.out Hb2.out)
  have HB1 : Hid (Blk w2 w.heap.size [.slice none 0 0] 41) := hide (Hk2.out.blk Hb1.out (fun h => h))
  have hne : e0 ≠ w.heap.size := Hb2.out.ne HB1.out (by decide)
  have Hne := hide hne
  clear hne
  refine rangeFS2 (gf := 65) (lb := #[.pointer (some ⟨e0, 0, none⟩)]) rfl HS.out ?size (BI B w.heap.size) (fun _ _ _ => False) (BI.stab _ _ _) (fun _ => ⟨fun _ _ h => h.elim, fun _ _ _ _ h => h.elim⟩) (fun k => k = w.heap.size) ?F0
    ⟨.slice none 0 0, HB1.out, Own.nil _ _, by funext k; simp [Value.ownBlock]⟩
    (fun x v a' W' => ∃ (v0 v1 : Value), v = #[v0, v1] ∧ a' = { tmps := #[.pointer a0, undef, .slice none 0 0, .pointer (some ⟨w.heap.size, 0, none⟩), undef, v1, .pointer a0, .func (.func 65) #[] #[.pointer (some ⟨e0, 0, none⟩)], v0, v1, undef, undef, undef, undef], defers := [] })
    (fun _ _ _ _ _ _ _ h _ _ => h) ?assign ?body ?done ?stop
  case size =>
    rintro x v G W ⟨s, rfl, _⟩
    rfl
  case F0 =>
    rintro k rfl
    refine ⟨?_, fun h => h⟩
    rintro (h | h)
    · exact Hne.out h.symm
    · exact HX2.out.ne HB1.out (by decide) (by decide) h
  case assign =>
    rintro lp n' pre x v F G A K hI ⟨s, rfl, hE1, hE2⟩ hK
    have HKK := hide hK
    clear hK
    gi_wp2
    exact HKK.out _ A (Kept.refl _ _) ⟨_, _, rfl, rfl⟩
  case body =>
    rintro lp n' pre x post v F G a' A hxs ⟨vo, hbo, hoo, rfl⟩ hwA hF ⟨s, hv, hE1, hE2⟩ hG ⟨v0, v1, hv2, rfl⟩
    rw [hv] at hv2
    simp only [Array.mk.injEq, List.cons.injEq, and_true] at hv2
    obtain ⟨rfl, rfl⟩ := hv2
    obtain ⟨so, rfl⟩ := hoo.sl
    have c0 : A.cell? ⟨w.heap.size, 0, none⟩ = some (.slice so.a so.n so.c) := hbo.cell 0
    have hbound := flatb_len B n HLen.out hxs
    have hsl := hE1.src
    have h64 : (getB B x).length ≤ 64 := by simp [getB]; omega
    obtain ⟨v', A2, hr, ho2, hk2, hv2⟩ := append_src hoo hsl (by omega) (Nat.zero_le _) 41
    have hbo2 := hk2.blk hbo (fun h => hoo.blk_ne hbo (by decide) h)
    obtain ⟨s', rfl⟩ := ho2.sl
    have Hr := hide hr
    have Ho2 := hide ho2
    have Hk2' := hide hk2
    have Hv2 := hide hv2
    have Hbo2 := hide hbo2
    have HG := hide hG
    have HE2 := hide hE2
    clear hr ho2 hk2 hv2 hbo2 hbound hsl hG hE2 hF hxs h64 hE1
    gi_wp2_with (with_reducible refine stopi_app 41 41 ?_)
    refine hide ?_
    refine wpListIn_run rfl rfl (fun _ => by simp) (r_append25 rfl rfl Hr.out) ?_
    try simp only [put_lit, put_none, List.set_cons_succ, List.set_cons_zero]
    clear c0
    gi_wp2_with (with_reducible refine stopi_store 41 ?_)
    refine hide ?_
    refine ai_store1 (v := .slice s'.a s'.n s'.c) Hi28.out Hs28.out rfl rfl rfl rfl Hbo2.out (by simp) ?_
    intro A3 hb3 hk3 hz3
    have Hb3 := hide hb3
    have Hk3 := hide hk3
    clear hb3 hk3 hz3
    try simp only [put_lit, put_none, List.set_cons_succ, List.set_cons_zero]
    gi_wp2
    have hnb : ∀ k, s'.v.ownBlock = some k → ¬ k = w.heap.size := fun k hk e => Ho2.out.blk_ne Hbo2.out (by decide) (by rw [← e]; exact hk)
    refine ⟨fun k => k = w.heap.size ∨ s'.v.ownBlock = some k, ⟨s'.v, Hb3.out, ?_, rfl⟩, ?_, ?_⟩
    · rw [List.flatMap_append]
      have := Ho2.out.kept Hk3.out hnb
      simpa using this
    · refine (Hk2'.out.mono (T := fun k => (k = w.heap.size ∨ so.v.ownBlock = some k) ∨ G k) (fun k _ h => .inl (.inr h))).trans Hk3.out (fun k _ h => .inl (.inl h))
    · rintro k (h | h)
      · exact .inl (.inl h)
      · rcases Hv2.out with h2 | h2
        · exact .inl (.inr (by rw [← h2]; exact h))
        · rw [h2] at h; cases h; exact .inr (.inr (Nat.le_refl _))
  case done =>
    rintro D F W hD ⟨vo, hbo, hoo, rfl⟩ hF hnD hkA hP hDD
    obtain ⟨so, rfl⟩ := hoo.sl
    have c0 : W.cell? ⟨w.heap.size, 0, none⟩ = some (.slice so.a so.n so.c) := hbo.cell 0
    rw [flat_blocks B n HLen.out] at hoo
    have Hoo := hide hoo
    have HDD := hide hDD
    have HKA := hide hkA
    have HF := hide hF
    have HnD := hide hnD
    clear hbo hoo hF hnD hkA hP hDD
    go_wp2
    have hkD : Kept (fun k => k = D) W (W.putObj D (.deferred none)) := Kept.putObj _ _ _
    refine ⟨by simp, .inl ⟨_, _, rfl, run_takeDeferred HDD.out, ?_⟩⟩
    refine ⟨_, results_tmp (fn := Try.f22) (t := 2) rfl _ _ _, so, rfl, ⟨Hoo.out.kept hkD (fun k h1 h2 => HnD.out (.inr (h2 ▸ h1))), fun k hk => ?_⟩, ?_⟩
    · rcases HF.out k (.inr hk) with h | h
      · omega
      · have := HKw2.out.size; omega
    · have h1 : Kept (fun _ => False) w W := HKw2.out.trans HKA.out (fun k hk h => by
        rcases h with h | h
        · omega
        · exact h)
      exact h1.trans hkD (fun k hk h => by have := HKw2.out.size; omega)
  case stop =>
    intros
    contradiction
end Go.Proofs.Ytakpkibjpjcgbaa
