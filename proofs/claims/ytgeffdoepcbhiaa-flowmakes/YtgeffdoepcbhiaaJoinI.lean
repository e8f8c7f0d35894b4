/-
  Join, for elements of one type.
-/
import Derived.Test.YtgeffdoepcbhiaaOfI
import Derived.Test.YtgeffdoepcbhiaaCloneQ
namespace Go.Proofs.Ytgeffdoepcbhiaa
open Go.RowKit Go.Shelf
set_option linter.unusedSimpArgs false
set_option linter.unusedVariables false
attribute [local go_sem] Oper.semAt_some

theorem flat_succI {α : Type} (xss : List (List α)) (k : Nat) (h : k < xss.length) : (xss.take (k + 1)).flatten = (xss.take k).flatten ++ xss[k] := by
  rw [List.take_succ_eq_append_getElem h, List.flatten_append, List.flatten_cons, List.flatten_nil, List.append_nil]
theorem flat_splitI {α : Type} (xss : List (List α)) (k : Nat) (h : k < xss.length) : xss.flatten = (xss.take k).flatten ++ xss[k] ++ (xss.drop (k + 1)).flatten := by
  have h1 : xss = xss.take k ++ xss[k] :: xss.drop (k + 1) := by rw [List.getElem_cons_drop, List.take_append_drop]
  have h2 := congrArg List.flatten h1
  rw [List.flatten_append, List.flatten_cons, ← List.append_assoc] at h2
  exact h2
/-- The values svs are sequences of the lists xss. -/
def SeqsI {α : Type} (E : EncR α) (svs : List Value) (xss : List (List α)) (X : NSet) (W : World) : Prop :=
  svs.length = xss.length ∧ ∀ (i : Nat) (sv : Value) (xs : List α), svs[i]? = some sv → xss[i]? = some xs → SeqOk Try.prog sv E xs X (fun _ => False) (fun _ _ _ => True) W
theorem SeqsI.kept {α : Type} {E : EncR α} {svs : List Value} {xss : List (List α)} {X S : NSet} {W W' : World} (h : SeqsI E svs xss X W) (hk : Kept S W W') (hS : ∀ k, S k → ¬ X k) : SeqsI E svs xss X W' :=
  ⟨h.1, fun i sv xs h1 h2 => (h.2 i sv xs h1 h2).kept hk (fun k hs => ⟨hS k hs, fun h => h⟩)⟩

set_option maxRecDepth 100000 in
set_option maxHeartbeats 1000000 in
theorem join1_atI {α : Type} {E : EncR α} {svs : List Value} {xss : List (List α)} {X : NSet} {W : World} {b : Nat} {v : Value} (hs : SeqsI E svs xss X W) (hXl : ∀ k, X k → k < W.heap.size) (hl : svs.length ≤ 1000000) (hb : Blk W b [v] 68) (ho : W.ownsRow 0 27 1 v svs.length svs) :
    FSeqAt Try.prog (.func (.func 59) #[] #[.pointer (some ⟨b, 0, none⟩)]) E xss.flatten (fun k => X k ∨ k = b ∨ v.ownBlock = some k) (fun _ => False) (fun _ _ _ => True) W := by
  intro tv J Jx F0 htv hJ hJx hF0 ht h0
  have HJ := hide hJ
  have HJx := hide hJx
  have HT := hide ht
  have H0 := hide h0
  have HF0 := hide hF0
  have HS := hide hs
  have HXl := hide hXl
  have Htv := hide htv
  have hvx : ∀ k, vX v k → v.ownBlock = some k := fun k h => own_vX ho h
  have HVx := hide hvx
  have c : W.cell? ⟨b, 0, none⟩ = some v := hb.cell 0
  obtain ⟨ao, cap, rfl, hcap, hsrc, hnil0⟩ := ownsRow_src ho
  have HS2 := hide hsrc
  have hlt := hb.lt
  have hsl := hs.1
  clear hJ hJx ht h0 hF0 hb ho hsrc hnil0 hvx hs hXl htv
  refine .inl ⟨_, _, rfl, enters_of Try.func59 (by kernel_rfl) rfl, ?_⟩
  show Calls Try.prog 59 #[tv, .pointer (some ⟨b, 0, none⟩)] W _
  refine (callsIn_wide (n := 4)).1 (callsIn_of_wp Try.func59 rfl trivial ?_ rfl)
  simp only [Try.ntmps59, List.size_toArray, List.length_cons, List.length_nil, Nat.reduceAdd, Nat.reduceSub, Array.replicate_succ, Array.replicate_zero, List.push_toArray, List.append_toArray, List.nil_append, List.cons_append]
  gi_wp2
  gi_loopw [7] (fun i wr => ∃ (k : Nat) (F : NSet), i = .int .i64 k ∧ k ≤ svs.length ∧ Hid (J (xss.take k).flatten F wr) ∧ Hid (∀ k, F k → F0 k ∨ W.heap.size ≤ k) ∧ Hid (Kept F0 W wr))
    (fun i _ => svs.length - (intOf i).toNat)
  case atStart => exact ⟨0, F0, rfl, Nat.zero_le _, hide H0.out, hide (fun k h => .inl h), hide (Kept.refl _ _)⟩
  case round =>
    obtain ⟨k, F, rfl, hk, hJk, hFk, hKk⟩ := hrel
    clear c
    by_cases hlt2 : k < svs.length
    · obtain ⟨g, off, rfl, hcs⟩ := HS2.out (by omega)
      have hgX : ¬ F0 g := fun h => (HF0.out g h).1 (.inr (.inr (HVx.out g ⟨off, _, _, rfl⟩)))
      have hcs2 := hKk.out.cells hcs hgX
      have c0 : wr.cell? ⟨g, off + k, none⟩ = some svs[k] := hcs2 k _ (by simp [hlt2])
      have hkx : k < xss.length := by omega
      have Hzs : Hid ((xss.take (k + 1)).flatten = (xss.take k).flatten ++ xss[k]) := hide (flat_succI xss k hkx)
      have Hzp : Hid (xss.flatten = (xss.take k).flatten ++ xss[k] ++ (xss.drop (k + 1)).flatten) := hide (flat_splitI xss k hkx)
      have hseq := (HS.out.kept hKk.out (fun j h1 h2 => (HF0.out j h1).1 (.inl h2))).2 k _ _ (List.getElem?_eq_getElem hlt2) (List.getElem?_eq_getElem hkx)
      obtain ⟨xs, hxs⟩ : ∃ xs, xs = xss[k] := ⟨_, rfl⟩
      obtain ⟨sv, hsv⟩ : ∃ sv, sv = svs[k] := ⟨_, rfl⟩
      rw [← hxs] at Hzs Hzp hseq
      rw [← hsv] at c0 hseq
      have hsz := hKk.out.size
      have hyc := each_atI hseq (tv := tv) (J := fun pre => J ((xss.take k).flatten ++ pre)) (Jx := fun pre => Jx ((xss.take k).flatten ++ pre)) (F0 := F) Htv.out
        (fun pre => (HJ.out _).le hsz) (fun pre => (HJx.out _).le hsz) (fun j hj => ⟨fun hx => by
          rcases hFk.out j hj with h | h
          · exact (HF0.out j h).1 (.inl hx)
          · have := HXl.out j hx; omega, fun h => h⟩)
        (fun pre x post F1 G v1 W1 h1 h2 h3 h4 h5 h6 => by
          have := HT.out ((xss.take k).flatten ++ pre) x (post ++ (xss.drop (k + 1)).flatten) F1 G v1 W1 (by rw [Hzp.out, h1]; simp) h2 (by omega) (fun j hj => by
            rcases h4 j hj with h | h
            · exact hFk.out j h
            · exact .inr (by omega)) h5 (fun j hj => by have := h6 j hj; exact ⟨this.1, by omega, this.2.2⟩)
          rw [List.append_assoc] at this
          exact this)
        (by simp only [List.append_nil]; exact hJk.out)
      have Hyc := hide hyc
      have hsvc := hseq.cells
      clear hyc hseq hcs hcs2 hxs hsv
      gi_wp2_with fail
      refine ⟨trivial, callsIn_wide.2 (Hyc.out.mono ?_)⟩
      rintro e w2 ⟨bb, rfl, hk2, hcase⟩
      have HK2 : Hid (Kept F0 W w2) := hide (hKk.out.trans hk2 (fun j hj h => by
        rcases h with h | h
        · exact (hFk.out j h).elim id (fun h => by omega)
        · exact h.elim))
      rcases hcase with ⟨rfl, F', hJ4, hF', _⟩ | ⟨rfl, pre, F', ⟨post, hpost⟩, hJ4, hF', _⟩
      · rw [← Hzs.out] at hJ4
        have HJ4 := hide hJ4
        have HF2 : Hid (∀ k, F' k → F0 k ∨ W.heap.size ≤ k) := hide (fun j h => by
          rcases hF' j h with h | h
          · exact hFk.out j h
          · exact .inr (by omega))
        clear hJ4 hk2 hF' c0
        gi_wp2
        go_roundw
        case rel => exact ⟨k + 1, F', by simp, by omega, HJ4, HF2, HK2⟩
        case measure => simp [intOf]; omega
      · have HJ4 := hide hJ4
        have Hpre : Hid (∃ post, xss.flatten = (xss.take k).flatten ++ pre ++ post) := hide ⟨post ++ (xss.drop (k + 1)).flatten, by rw [Hzp.out, hpost]; simp⟩
        have HF2 : Hid (∀ k, F' k → F0 k ∨ W.heap.size ≤ k) := hide (fun j h => by
          rcases hF' j h with h | h
          · exact hFk.out j h
          · exact .inr (by omega))
        clear hJ4 hk2 hF' c0 hpost
        gi_wp2
        refine bodyPost_ret (results_none rfl _ _ _) rfl ?_
        exact ⟨⟨_, rfl⟩, false, HK2.out.mono (fun _ _ h => .inl h), .inr ⟨rfl, _, F', Hpre.out, HJ4.out, HF2.out, trivial⟩⟩
    · obtain rfl : k = svs.length := by omega
      gi_wp2
      go_end0
      refine ⟨⟨_, rfl⟩, true, hKk.out.mono (fun _ _ h => .inl h), .inl ⟨rfl, F, ?_, hFk.out, trivial⟩⟩
      have := hJk.out
      rwa [List.take_of_length_le (by omega)] at this
theorem join_okI {α : Type} {E : EncR α} {svs : List Value} {xss : List (List α)} {X : NSet} {W : World} {b : Nat} {v : Value} (hE : EOk X E) (hs : SeqsI E svs xss X W) (hXl : ∀ k, X k → k < W.heap.size) (hl : svs.length ≤ 1000000) (hb : Blk W b [v] 68) (ho : W.ownsRow 0 27 1 v svs.length svs) :
    SeqOk Try.prog (.func (.func 59) #[] #[.pointer (some ⟨b, 0, none⟩)]) E xss.flatten (fun k => X k ∨ k = b ∨ v.ownBlock = some k) (fun _ => False) (fun _ _ _ => True) W := by
  refine ⟨.inl ⟨_, _, rfl⟩, ?_, fun _ _ h => h, ?_, fun _ _ _ _ _ _ _ _ => trivial, ?_⟩
  · rintro k ((h | h | h) | h)
    · exact hXl k h
    · rw [h]; exact hb.lt
    · exact ownsRow_lt ho k h
    · exact h.elim
  · intro x v G W W' S h hk hS
    exact hE x v G W W' S h hk (fun k h => ⟨(hS k h).1, fun hx => (hS k h).2 (.inl hx)⟩)
  · intro _ W' S hk hS
    exact join1_atI (hs.kept hk (fun k h hx => (hS k h).1 (.inl hx))) (fun k h => Nat.lt_of_lt_of_le (hXl k h) hk.size) hl (hk.blk hb (fun h => (hS _ h).1 (.inr (.inl rfl)))) (ownsRow_kept ho hk (fun k h h' => (hS k h').1 (.inr (.inr h))))
set_option maxRecDepth 100000 in
set_option maxHeartbeats 1000000 in
theorem join_atI (w : World) (v : Value) (vs : List Value) (hv : SrcV w v vs) (h1 : ∀ u ∈ vs, u.oneCell' = true) (hl : vs.length ≤ 1000000) :
    Calls Try.prog 27 #[v] w fun e w' => ∃ b v', e = .returned (.func (.func 59) #[] #[.pointer (some ⟨b, 0, none⟩)]) ∧ Blk w' b [v'] 68 ∧ w'.ownsRow 0 27 1 v' vs.length vs ∧ Kept (fun _ => False) w w' ∧ w.heap.size ≤ b ∧ (∀ k, v'.ownBlock = some k → w.heap.size ≤ k) := by
  have HC := hide (clone_atQ w v vs hv h1 hl)
  obtain ⟨i0, hi0, hz0, hs0, hb0⟩ := info_parts Try.info68
  obtain ⟨ao, cap, rfl, hcap, hsrc, hnil0⟩ := hv
  have Hi0 := hide hi0
  have Hz0 := hide hz0
  have Hs0 := hide hs0
  clear hi0 hz0 hs0 hb0 h1 hsrc hnil0
  go_enter Try.func27, Try.ntmps27
  go_wp2_with fail
  refine HC.out.mono ?_
  rintro e w1 ⟨v', rfl, ho, hk1, hv1⟩
  have HO := hide ho
  have HV1 := hide hv1
  obtain ⟨ao', c', rfl⟩ := ownsRow_slice ho
  clear ho hv1
  go_wp2_with (first
    | ((with_reducible refine aw_alloc (t := 68) Hi0.out Hz0.out ?_); intro w2 hb2 hk2 hz2; have Hz2 := hide hz2; clear hz2)
    | (with_reducible refine stop_store 68 ?_))
  refine hide ?_
  refine aw_store1 (v := .slice ao' vs.length c') Hi0.out Hs0.out rfl rfl rfl rfl hb2 (by simp [Value.cells]) ?_
  intro w3 hb3 hk3 hz3
  have HB3 := hide hb3
  have HK3 := hide hk3
  clear hb2 hb3 hk3 hz3
  try simp only [put_lit, put_none, List.set_cons_succ, List.set_cons_zero]
  go_wp2
  go_ret
  have hz2 := Hz2.out
  have hs1 := hk1.size
  refine ⟨w1.heap.size, _, rfl, HB3.out, ownsRow_kept (ownsRow_kept HO.out hk2 (fun _ _ h => h)) HK3.out (fun k h1 h2 => by have := ownsRow_lt HO.out k h1; omega), (hk1.trans hk2 (fun _ _ h => h)).trans HK3.out (fun k _ h => by omega), hs1, HV1.out⟩
end Go.Proofs.Ytgeffdoepcbhiaa
