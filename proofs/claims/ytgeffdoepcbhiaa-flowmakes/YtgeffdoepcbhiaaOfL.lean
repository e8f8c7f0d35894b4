/-
  slices.Clone and Of, for elements of one type.
-/
import Derived.Test.YtgeffdoepcbhiaaEachL
namespace Go.Proofs.Ytgeffdoepcbhiaa
open Go.RowKit Go.Shelf
set_option linter.unusedSimpArgs false
set_option linter.unusedVariables false
attribute [local go_sem] Oper.semAt_some

set_option maxRecDepth 100000 in
set_option maxHeartbeats 1000000 in
theorem clone_atL (w : World) (v : Value) (vs : List Value) (hv : SrcV w v vs) (h1 : ∀ u ∈ vs, u.oneCell' = true) (hl : vs.length ≤ 1000000) :
    Calls Try.prog 68 #[v] w fun e w' => ∃ v', e = .returned v' ∧ w'.ownsRow 0 22 1 v' vs.length vs ∧ Kept (fun _ => False) w w' ∧ (∀ k, v'.ownBlock = some k → w.heap.size ≤ k) := by
  obtain ⟨i0, hi0, hz0, hs0, hb0⟩ := info_parts Try.info22
  have HV := hide hv
  obtain ⟨ao, cap, rfl, hcap, hsrc, hnil0⟩ := hv
  have Hi0 := hide hi0
  have Hz0 := hide hz0
  have Hs0 := hide hs0
  have Hb0 := hide hb0
  have H1 := hide h1
  clear hi0 hz0 hs0 hb0 h1 hsrc
  cases ao with
  | none =>
    obtain rfl : cap = 0 := hnil0 rfl
    obtain rfl : vs = [] := List.eq_nil_of_length_eq_zero (by omega)
    have hnil : (binOp .eql 46 (.slice none 0 0) (.slice none 0 0)).run Try.prog w = .ok (.bool true) w := by
      exact Lib.run_eql_slice_nil w 46 22 _ _ _ 0 0 Try.underlying46
    simp only [List.length_nil]
    clear hnil0 HV hcap
    go_enter Try.func68, Try.ntmps68
    go_wp2
    go_ret
    exact ⟨_, rfl, World.ownsRow_nil _ _ _ _, Kept.refl _ _, fun k h => by simp [Value.ownBlock] at h⟩
  | some a =>
    clear hnil0
    have hnil : (binOp .eql 46 (.slice (some a) vs.length cap) (.slice none 0 0)).run Try.prog w = .ok (.bool false) w := by
      exact Lib.run_eql_slice_nil w 46 22 _ _ _ 0 0 Try.underlying46
    go_enter Try.func68, Try.ntmps68
    go_wp2_with (with_reducible refine stop_bs 46 ?_)
    refine hide ?_
    refine wpList_run rfl (r_bs0 Try.underlying46 Hi0.out Hz0.out Hs0.out) ?_
    have hb1 := Blk.new w [] 22
    have hk1 : Kept (fun _ => False) w (w.alloc (.cells #[] 22)) := Kept.alloc _ _ _
    have hsz1 : (w.alloc (.cells #[] 22)).heap.size = w.heap.size + 1 := by simp
    rw [show (([] : List Value).toArray) = #[] from rfl] at hb1
    generalize w.alloc (.cells #[] 22) = w1 at hb1 hk1 hsz1
    have hown : w1.ownsRow 0 22 1 (.slice (some ⟨w.heap.size, 0, none⟩) 0 0) 0 [] := ownsRow_of (C := []) (by simpa using hb1) rfl (Nat.le_refl _) (by unfold maxLen; omega) rfl
    obtain ⟨v', w2, hr, h2, h3, h5⟩ := append_row (P := Try.prog) (ty := 46) Try.underlying46 Hi0.out Hz0.out Hs0.out Hb0.out rfl (by decide) hown (HV.out.kept hk1 (fun _ _ h => h)) H1.out (by omega)
    have HR := hide hr
    have HSz := hide hsz1
    clear hb1 hsz1 hown hr hnil
    simp only [put_lit, List.set_cons_succ, List.set_cons_zero]
    go_wp2_with (with_reducible refine stop_append 46 ?_)
    refine hide ?_
    refine wpList_run rfl (r_app rfl rfl HR.out) ?_
    simp only [put_lit, List.set_cons_succ, List.set_cons_zero]
    have H2 := hide h2
    have H3 := hide h3
    have H5 := hide h5
    clear h2 h3 h5
    go_wp2
    go_ret
    have hz := HSz.out
    refine ⟨_, rfl, by simpa using H2.out, hk1.trans H3.out (fun k hk h => by simp [Value.ownBlock] at h; omega), fun k h => ?_⟩
    have h : v'.ownBlock = some k := h
    rcases H5.out with h' | h'
    · rw [h'] at h; simp [Value.ownBlock] at h; omega
    · rw [h'] at h; cases h; omega

set_option maxRecDepth 100000 in
set_option maxHeartbeats 1000000 in
theorem of_atL (w : World) (v : Value) (vs : List Value) (hv : SrcV w v vs) (h1 : ∀ u ∈ vs, u.oneCell' = true) (hl : vs.length ≤ 1000000) :
    Calls Try.prog 46 #[v] w fun e w' => ∃ b v', e = .returned (.func (.func 69) #[] #[.pointer (some ⟨b, 0, none⟩)]) ∧ Blk w' b [v'] 46 ∧ w'.ownsRow 0 22 1 v' vs.length vs ∧ Kept (fun _ => False) w w' ∧ w.heap.size ≤ b ∧ (∀ k, v'.ownBlock = some k → w.heap.size ≤ k) := by
  have HC := hide (clone_atL w v vs hv h1 hl)
  obtain ⟨i0, hi0, hz0, hs0, hb0⟩ := info_parts Try.info46
  obtain ⟨ao, cap, rfl, hcap, hsrc, hnil0⟩ := hv
  have Hi0 := hide hi0
  have Hz0 := hide hz0
  have Hs0 := hide hs0
  clear hi0 hz0 hs0 hb0 h1 hsrc hnil0
  go_enter Try.func46, Try.ntmps46
  go_wp2_with fail
  refine HC.out.mono ?_
  rintro e w1 ⟨v', rfl, ho, hk1, hv1⟩
  have HO := hide ho
  have HV1 := hide hv1
  obtain ⟨ao', c', rfl⟩ := ownsRow_slice ho
  clear ho hv1
  go_wp2_with (first
    | ((with_reducible refine aw_alloc (t := 46) Hi0.out Hz0.out ?_); intro w2 hb2 hk2 hz2; have Hz2 := hide hz2; clear hz2)
    | (with_reducible refine stop_store 46 ?_))
  refine hide ?_
  refine aw_store1 (v := .slice ao' vs.length c') Hi0.out Hs0.out rfl rfl rfl rfl hb2 (by simp [Value.cells]) ?_
  intro w3 hb3 hk3 hz3
  have HB3 := hide hb3
  have HK3 := hide hk3
  clear hb2 hb3 hk3 hz3
  try simp only [put_lit, put_none, List.set_cons_succ, List.set_cons_zero]
  go_wp2
  go_ret
  have hz2 := Hz2.out
  have hs1 := hk1.size
  refine ⟨w1.heap.size, _, rfl, HB3.out, ownsRow_kept (ownsRow_kept HO.out hk2 (fun _ _ h => h)) HK3.out (fun k h1 h2 => by have := ownsRow_lt HO.out k h1; omega), (hk1.trans hk2 (fun _ _ h => h)).trans HK3.out (fun k _ h => by omega), hs1, HV1.out⟩

set_option maxRecDepth 100000 in
set_option maxHeartbeats 1000000 in
theorem of1_atL {α : Type} {D : α → Value} {xs : List α} {b : Nat} {v : Value} {W : World} (hb : Blk W b [v] 46) (ho : W.ownsRow 0 22 1 v xs.length (xs.map D)) (hD : ∀ x, (D x).cells = #[D x]) (hl : xs.length ≤ 1000000) :
    FSeqAt Try.prog (.func (.func 69) #[] #[.pointer (some ⟨b, 0, none⟩)]) (EncD D) xs (fun k => k = b ∨ v.ownBlock = some k) (fun _ => False) (fun _ _ _ => True) W := by
  intro tv J Jx F0 htv hJ hJx hF0 ht h0
  have HJ := hide hJ
  have HJx := hide hJx
  have HT := hide ht
  have H0 := hide h0
  have HF0 := hide hF0
  have HSrc := hide (ownsRow_src ho)
  have c : W.cell? ⟨b, 0, none⟩ = some v := hb.cell 0
  have hvx : ∀ k, vX v k → v.ownBlock = some k := fun k h => own_vX ho h
  have HVx := hide hvx
  obtain ⟨ao, cap, rfl, hcap, hsrc, hnil0⟩ := ownsRow_src ho
  simp only [List.length_map] at c hcap
  have HS2 := hide hsrc
  have hlt := hb.lt
  clear hJ hJx ht h0 hF0 hb ho hsrc hnil0 hvx
  refine .inl ⟨_, _, rfl, enters_of Try.func69 (by kernel_rfl) rfl, ?_⟩
  show Calls Try.prog 69 #[tv, .pointer (some ⟨b, 0, none⟩)] W _
  refine (callsIn_wide (n := 4)).1 (callsIn_of_wp Try.func69 rfl trivial ?_ rfl)
  simp only [Try.ntmps69, List.size_toArray, List.length_cons, List.length_nil, Nat.reduceAdd, Nat.reduceSub, Array.replicate_succ, Array.replicate_zero, List.push_toArray, List.append_toArray, List.nil_append, List.cons_append]
  gi_wp2
  gi_loopw [7] (fun i wr => ∃ (k : Nat) (F : NSet), i = .int .i64 k ∧ k ≤ xs.length ∧ Hid (J (xs.take k) F wr) ∧ Hid (∀ k, F k → F0 k ∨ W.heap.size ≤ k) ∧ Hid (Kept F0 W wr))
    (fun i _ => xs.length - (intOf i).toNat)
  case atStart => exact ⟨0, F0, rfl, Nat.zero_le _, hide H0.out, hide (fun k h => .inl h), hide (Kept.refl _ _)⟩
  case round =>
    obtain ⟨k, F, rfl, hk, hJk, hFk, hKk⟩ := hrel
    clear c
    by_cases hlt2 : k < xs.length
    · obtain ⟨g, off, rfl, hcs⟩ := HS2.out (by simp; omega)
      have hgX : ¬ F0 g := fun h => (HF0.out g h).1 (.inr (HVx.out g ⟨off, _, _, rfl⟩))
      have hcs2 := hKk.out.cells hcs hgX
      have c0 : wr.cell? ⟨g, off + k, none⟩ = some (D xs[k]) := hcs2 k _ (by simp [hlt2])
      have Hzs : Hid (xs.take (k + 1) = xs.take k ++ [xs[k]]) := hide (List.take_succ_eq_append_getElem hlt2)
      have Hzp : Hid (xs = xs.take k ++ xs[k] :: xs.drop (k + 1)) := hide (by rw [List.getElem_cons_drop, List.take_append_drop])
      obtain ⟨x, hx⟩ : ∃ x, x = xs[k] := ⟨_, rfl⟩
      rw [← hx] at c0 Hzs Hzp
      have hyc := HT.out _ x _ F (fun _ => False) (D x) wr Hzp.out hJk.out hKk.out.size hFk.out ⟨rfl, fun _ h => h⟩ (fun _ h => h.elim)
      have Hyc := hide hyc
      have hDx := hD x
      obtain ⟨u, hu⟩ : ∃ u, u = D x := ⟨_, rfl⟩
      rw [← hu] at c0 Hyc hDx
      clear hyc hx hcs hcs2 HSrc hu
      gi_wp2_with (with_reducible refine stopi_val1 ?_)
      refine hide ?_
      try simp only [put_lit, List.set_cons_succ, List.set_cons_zero]
      refine ai_yc1 (yv := tv) (vy := u) rfl rfl rfl Hyc.out ?_
      rintro e w2 ⟨F', hcase, hk2, hF'⟩
      rw [← Hzs.out] at hcase
      have HK2 : Hid (Kept F0 W w2) := hide (hKk.out.trans hk2 (fun j hj h => by
        rcases h with h | h
        · exact (hFk.out j h).elim id (fun h => by omega)
        · exact h.elim))
      have HF2 : Hid (∀ k, F' k → F0 k ∨ W.heap.size ≤ k) := hide (fun j h => by
        rcases hF' j h with h | h | h
        · exact hFk.out j h
        · exact h.elim
        · have := hKk.out.size; exact .inr (by omega))
      rcases hcase with ⟨rfl, hJ4⟩ | ⟨rfl, hJ4⟩
      · have HJ4 := hide hJ4
        clear hJ4 hk2 hF' c0
        refine ⟨_, rfl, ?_⟩
        try simp only [put_lit, List.set_cons_succ, List.set_cons_zero]
        gi_wp2
        go_roundw
        case rel => exact ⟨k + 1, F', by simp, by omega, HJ4, HF2, HK2⟩
        case measure => simp [intOf]; omega
      · have HJ4 := hide hJ4
        have Hpre : Hid (∃ post, xs = xs.take (k + 1) ++ post) := hide ⟨_, (List.take_append_drop _ _).symm⟩
        clear hJ4 hk2 hF' c0
        refine ⟨_, rfl, ?_⟩
        try simp only [put_lit, List.set_cons_succ, List.set_cons_zero]
        gi_wp2
        refine bodyPost_ret (results_none rfl _ _ _) rfl ?_
        exact ⟨⟨_, rfl⟩, false, HK2.out.mono (fun _ _ h => .inl h), .inr ⟨rfl, _, F', Hpre.out, HJ4.out, HF2.out, trivial⟩⟩
    · obtain rfl : k = xs.length := by omega
      gi_wp2
      go_end0
      refine ⟨⟨_, rfl⟩, true, hKk.out.mono (fun _ _ h => .inl h), .inl ⟨rfl, F, ?_, hFk.out, trivial⟩⟩
      have := hJk.out
      rwa [List.take_of_length_le (by simp)] at this

/-- A sequence of a list. -/
theorem of_okL {α : Type} {D : α → Value} {xs : List α} {b : Nat} {v : Value} {W : World} (hb : Blk W b [v] 46) (ho : W.ownsRow 0 22 1 v xs.length (xs.map D)) (hD : ∀ x, (D x).cells = #[D x]) (hl : xs.length ≤ 1000000) :
    SeqOk Try.prog (.func (.func 69) #[] #[.pointer (some ⟨b, 0, none⟩)]) (EncD D) xs (fun k => k = b ∨ v.ownBlock = some k) (fun _ => False) (fun _ _ _ => True) W :=
  ⟨.inl ⟨_, _, rfl⟩, fun k h => by
    rcases h with (rfl | h) | h
    · exact hb.lt
    · exact ownsRow_lt ho k h
    · exact h.elim, fun _ _ h => h, EncD.ok _ _, fun _ _ _ _ _ _ _ _ => trivial, fun _ W' S hk hS => of1_atL (hk.blk hb (fun h => (hS b h).1 (.inl rfl))) (ownsRow_kept ho hk (fun k h1 h2 => (hS k h2).1 (.inr h1))) hD hl⟩
end Go.Proofs.Ytgeffdoepcbhiaa
