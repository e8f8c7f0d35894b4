/-
  All, of package image, as a sequence of pairs.
-/
import Derived.Test.YtakpkibjpjcgbaaIOps
import Derived.Test.YtakpkibjpjcgbaaRangeS
namespace Go.Proofs.Ytakpkibjpjcgbaa
open Go.RowKit Go.Shelf
set_option linter.unusedSimpArgs false
set_option linter.unusedVariables false
set_option maxRecDepth 100000
attribute [local go_sem] Oper.semAt_some

/-- A disk, with the blocks that it stands on. -/
def DkL (w : World) (d : Value) (n : Nat) (B : List Nat) (X : NSet) : Prop :=
  (n = 0 ∧ B = [] ∧ d = .pointer none ∧ ∀ k, ¬ X k) ∨
  (1 ≤ n ∧ n ≤ 64 ∧ B.length = 64 * n ∧ (∀ x ∈ B, x < 256) ∧ ∃ b g cap C, d = .pointer (some ⟨b, 0, none⟩) ∧ Blk w b [.slice (some ⟨g, 0, none⟩) n cap] 118 ∧ Blk w g (BV B ++ C) 119 ∧ (n ≤ cap ∧ cap ≤ maxLen ∧ C.length = (cap - n) * 64) ∧ ∀ k, X k ↔ k = b ∨ k = g)
theorem DkAt.l {w : World} {d : Value} {n : Nat} {B : List Nat} (h : DkAt w d n B) : ∃ X, DkL w d n B X := by
  rcases h with ⟨h1, h2, h3⟩ | ⟨h1, h2, h3, h4, b, g, cap, C, h5, h6, h7, h8⟩
  · exact ⟨fun _ => False, .inl ⟨h1, h2, h3, fun _ h => h⟩⟩
  · exact ⟨fun k => k = b ∨ k = g, .inr ⟨h1, h2, h3, h4, b, g, cap, C, h5, h6, h7, h8, fun _ => Iff.rfl⟩⟩
theorem DkL.at {w : World} {d : Value} {n : Nat} {B : List Nat} {X : NSet} (h : DkL w d n B X) : DkAt w d n B := by
  rcases h with ⟨h1, h2, h3, _⟩ | ⟨h1, h2, h3, h4, b, g, cap, C, h5, h6, h7, h8, _⟩
  · exact .inl ⟨h1, h2, h3⟩
  · exact .inr ⟨h1, h2, h3, h4, b, g, cap, C, h5, h6, h7, h8⟩
theorem DkL.lt {w : World} {d : Value} {n : Nat} {B : List Nat} {X : NSet} (h : DkL w d n B X) : ∀ k, X k → k < w.heap.size := by
  rcases h with ⟨_, _, _, h⟩ | ⟨h1, h2, h3, h4, b, g, cap, C, h5, h6, h7, h8, h9⟩
  · exact fun k hk => (h k hk).elim
  · intro k hk
    rcases (h9 k).1 hk with rfl | rfl
    · exact h6.lt
    · exact h7.lt
theorem DkL.kept {w w' : World} {d : Value} {n : Nat} {B : List Nat} {X S : NSet} (h : DkL w d n B X) (hk : Kept S w w') (hS : ∀ k, S k → ¬ X k) : DkL w' d n B X := by
  rcases h with h | ⟨h1, h2, h3, h4, b, g, cap, C, h5, h6, h7, h8, h9⟩
  · exact .inl h
  · exact .inr ⟨h1, h2, h3, h4, b, g, cap, C, h5, hk.blk h6 (fun h => hS _ h ((h9 _).2 (.inl rfl))), hk.blk h7 (fun h => hS _ h ((h9 _).2 (.inr rfl))), h8, h9⟩
theorem DkL.ne {w : World} {d : Value} {n g : Nat} {B : List Nat} {X : NSet} {L : List Value} {t : TypeId} (h : DkL w d n B X) (hb : Blk w g L t) (h1 : t ≠ 118) (h2 : t ≠ 119) : ¬ X g := by
  rcases h with ⟨_, _, _, h⟩ | ⟨_, _, _, _, b, g', cap, C, h5, h6, h7, h8, h9⟩
  · exact h g
  · intro hx
    rcases (h9 g).1 hx with rfl | rfl
    · exact h1 (hb.same h6).2
    · exact h2 (hb.same h7).2
/-- A block that is handed on: its number, and a slice of one's own. -/
def EK (B : List Nat) : EncR2 Nat := fun k v G W => ∃ s : Sl, v = #[.int .i64 k, .slice s.a s.n s.c] ∧ Own W 0 s.v (getB B k) ∧ ∀ j, G j ↔ s.v.ownBlock = some j
theorem EK.ok (B : List Nat) (X : NSet) : EOk2 X (EK B) := by
  rintro k v G W W' S ⟨s, h1, h2, h3⟩ hk hS
  exact ⟨s, h1, h2.kept hk (fun j hj h => (hS j h).1 ((h3 j).2 hj)), h3⟩

section
variable {n : Nat} {P : Program} {ops : Array Oper} {Q : Exit → Act → World → Prop} {a : Act} {w : World} {rest : List Oper} {dst : Option Tmp} {ty : TypeId} {pos : String} {aft : Array Edge} {x y z u : Operand} {ts : Array TypeId} {gd : Option (Nat × Bool)}
theorem stopi_slice1 {F : Fence} (t : TypeId) {l h m : Option Operand} (hh : Hid (wpListIn F n P ops Q (⟨dst, .slice t x l h m, ty, pos, aft, none⟩ :: rest) a w)) : wpListIn F n P ops Q (⟨dst, .slice t x l h m, ty, pos, aft, none⟩ :: rest) a w := hh.out
theorem stopi_callF1 {F : Fence} (g : Nat) (h : Hid (wpListIn F n P ops Q (⟨dst, .call { callee := .value (.func g), args := #[x], argTypes := ts }, ty, pos, aft, gd⟩ :: rest) a w)) : wpListIn F n P ops Q (⟨dst, .call { callee := .value (.func g), args := #[x], argTypes := ts }, ty, pos, aft, gd⟩ :: rest) a w := h.out
theorem ai_call1 {d gf : Nat} {vx : Value} {R : Ending → World → Prop} (hw : Region.wanted ⟨some d, .call { callee := .value u, args := #[x], argTypes := ts }, ty, pos, aft, gd⟩ (yielded ops a.tmps) = true) (hu : a.eval u = .func (.func gf) #[] #[]) (hx : a.eval x = vx) (eg : ∀ args w, (callFunc gf args).run P w = .ok (.enter gf args) w) (hc : Calls P gf #[vx] w R)
    (h : ∀ e w', R e w' → ∃ v, e = .returned v ∧ wpListIn Fence.wide n P ops Q rest (a.put (some d) v) w') :
    wpListIn Fence.wide n P ops Q (⟨some d, .call { callee := .value u, args := #[x], argTypes := ts }, ty, pos, aft, gd⟩ :: rest) a w := by
  refine wpListIn_step fun K hK => ?_
  rw [if_pos hw]
  refine ⟨fun _ _ => trivial, ?_⟩
  rw [Oper.semAt_eq _ _ _ (fun _ => by simp)]
  rw [run_cF1 a.eval hu hx eg]
  refine ⟨fun e => (by cases e), callsIn_wide.2 ((show Calls P gf (#[vx] ++ #[]) w R from hc).mono ?_)⟩
  rintro e w' hR
  obtain ⟨v, rfl, h2⟩ := h e w' hR
  exact hK _ _ h2
end

set_option maxHeartbeats 4000000 in
theorem all1_at {d : Value} {n e0 : Nat} {B : List Nat} {X : NSet} {W : World} (hd : DkL W d n B X) (he : Blk W e0 [d] 44) :
    FSeqAt2 Try.prog (.func (.func 65) #[] #[.pointer (some ⟨e0, 0, none⟩)]) (EK B) (List.range n) (fun k => k = e0 ∨ X k) (fun _ => False) (fun _ _ _ => True) W := by
  intro tv J Jx F0 htv hJ hJx hF0 ht h0
  have HJ := hide hJ
  have HT := hide ht
  have H0 := hide h0
  have HF0 := hide hF0
  have HD := hide hd
  have HE := hide he
  have hn64 := hd.at.le
  obtain ⟨a0, rfl, ha0⟩ := hd.at.ptr
  have HA0 := hide ha0
  have hlte := he.lt
  clear hd he hJ hJx ht h0 hF0 ha0
  refine .inl ⟨_, _, rfl, enters_of Try.func65 (by kernel_rfl) rfl, ?_⟩
  show Calls Try.prog 65 #[tv, .pointer (some ⟨e0, 0, none⟩)] W _
  refine (callsIn_wide (n := 4)).1 (callsIn_of_wp Try.func65 rfl trivial ?_ rfl)
  simp only [Try.ntmps65, List.size_toArray, List.length_cons, List.length_nil, Nat.reduceAdd, Nat.reduceSub, Array.replicate_succ, Array.replicate_zero, List.push_toArray, List.append_toArray, List.nil_append, List.cons_append]
  have c0 : W.cell? ⟨e0, 0, none⟩ = some (.pointer a0) := HE.out.cell 0
  gi_wp2_with (with_reducible refine stopi_callF1 66 ?_)
  refine hide ?_
  refine ai_call1 (gf := 66) rfl rfl rfl (enters_of Try.func66 (by kernel_rfl) rfl) (blocks_at W _ n B HD.out.at) ?_
  rintro e w1 ⟨rfl, rfl⟩
  refine ⟨_, rfl, ?_⟩
  try simp only [put_lit, put_none, List.set_cons_succ, List.set_cons_zero]
  gi_wp2
  gi_loopw [6] (fun i wr => ∃ (k : Nat) (F : NSet), i = .int .i64 k ∧ k ≤ n ∧ Hid (J (List.range k) F wr) ∧ Hid (∀ k, F k → F0 k ∨ W.heap.size ≤ k) ∧ Hid (Kept F0 W wr))
    (fun i _ => n - (intOf i).toNat)
  case atStart => exact ⟨0, F0, rfl, Nat.zero_le _, hide H0.out, hide (fun k h => .inl h), hide (Kept.refl _ _)⟩
  case round =>
    obtain ⟨k, F, rfl, hk, hJk, hFk, hKk⟩ := hrel
    by_cases hlt : k < n
    · have hd2 := HD.out.kept hKk.out (fun k hk h => (HF0.out k hk).1 (.inr h))
      have he2 := hKk.out.blk HE.out (fun h => (HF0.out e0 h).1 (.inl rfl))
      rcases hd2 with ⟨rfl, _⟩ | ⟨h1, h2, h3, h4, b, g, cap, C, e, h6, h7, h8, h9⟩
      · omega
      cases e
      have c0 : wr.cell? ⟨e0, 0, none⟩ = some (.pointer (some ⟨b, 0, none⟩)) := he2.cell 0
      have c1 : wr.cell? ⟨b, 0, none⟩ = some (.slice (some ⟨g, 0, none⟩) n cap) := h6.cell 0
      have hsrc := blk_src h7 h3 h4 hlt
      have HC := hide (bclone_at wr _ _ hsrc (by rw [getB_len h3 hlt]; decide))
      have hltI : (k : Int) < n := by omega
      clear h1 h2 h3 h4 h6 h7 h8 h9 hsrc he2
      gi_wp2_with (with_reducible refine stopi_slice1 119 ?_)
      refine hide ?_
      refine wpListIn_run rfl rfl (fun _ => by simp) (run_slice_arr rfl) ?_
      rw [Nat.mul_comm k 64]
      try simp only [put_lit, put_none, List.set_cons_succ, List.set_cons_zero]
      gi_wp2_with (with_reducible refine stopi_callF1 67 ?_)
      refine hide ?_
      refine ai_call1 (gf := 67) rfl rfl rfl (enters_of Try.func67 (by kernel_rfl) rfl) HC.out ?_
      rintro e w1 ⟨s, rfl, ho, hk1⟩
      refine ⟨_, rfl, ?_⟩
      have hsz := hKk.out.size
      have hsz1 := hk1.size
      have hJ1 := (HJ.out _).none hJk.out hk1
      have hFl : ∀ j, F j → j < wr.heap.size := (HJ.out _).lt _ _ hJk.out
      have hrg : List.range n = List.range k ++ k :: (List.range n).drop (k + 1) := by
        have h1 : k < (List.range n).length := by simpa using hlt
        have h2 := List.take_append_drop k (List.range n)
        rw [List.drop_eq_getElem_cons h1, List.getElem_range, List.take_range, Nat.min_eq_left (by omega)] at h2
        exact h2.symm
      have hyc := HT.out (List.range k) k _ F (fun j => s.v.ownBlock = some j) #[.int .i64 k, .slice s.a s.n s.c] w1 hrg hJ1 (by omega) hFk.out ⟨s, rfl, ho.1, fun _ => Iff.rfl⟩ (fun j hj => ⟨fun h => by have := hFl j h; have := ho.2 j hj; omega, by have := ho.2 j hj; omega, ho.1.lt j hj⟩)
      have Hyc := hide hyc
      have Hk1 := hide hk1
      have Hfresh := hide ho.2
      clear hyc hk1 hJ1 c0 c1 ho hFl hrg
      try simp only [put_lit, put_none, List.set_cons_succ, List.set_cons_zero]
      gi_wp2_with (with_reducible refine stopi_val1 ?_)
      refine hide ?_
      try simp only [put_lit, put_none, List.set_cons_succ, List.set_cons_zero]
      refine ai_yc (yv := tv) (vy := .int .i64 k) (vz := .slice s.a s.n s.c) rfl rfl rfl Hyc.out ?_
      rintro e w2 ⟨F', hcase, hk2, hF'⟩
      rw [← List.range_succ] at hcase
      have HK2 : Hid (Kept F0 W w2) := hide ((hKk.out.trans Hk1.out (fun _ _ h => h.elim)).trans hk2 (fun j hj h => by
        rcases h with h | h
        · exact (hFk.out j h).elim (fun h => h) (fun h => by omega)
        · have := Hfresh.out j h; omega))
      have HF2 : Hid (∀ k, F' k → F0 k ∨ W.heap.size ≤ k) := hide (fun j h => by
        rcases hF' j h with h | h | h
        · exact hFk.out j h
        · have := Hfresh.out j h; exact .inr (by omega)
        · exact .inr (by omega))
      rcases hcase with ⟨rfl, hJ4⟩ | ⟨rfl, hJ4⟩
      · have HJ4 := hide hJ4
        clear hJ4 hk2 hF' Hk1
        refine ⟨_, rfl, ?_⟩
        try simp only [put_lit, List.set_cons_succ, List.set_cons_zero]
        gi_wp2
        go_roundw
        case rel => exact ⟨k + 1, F', by simp, by omega, HJ4, HF2, HK2⟩
        case measure => simp [intOf]; omega
      · have HJ4 := hide hJ4
        have Hpre : Hid (∃ post, List.range n = List.range (k + 1) ++ post) := hide ⟨(List.range n).drop (k + 1), by
          have h2 := List.take_append_drop (k + 1) (List.range n)
          rw [List.take_range, Nat.min_eq_left (by omega)] at h2
          exact h2.symm⟩
        clear hJ4 hk2 hF' Hk1
        refine ⟨_, rfl, ?_⟩
        try simp only [put_lit, List.set_cons_succ, List.set_cons_zero]
        gi_wp2
        refine bodyPost_ret (results_none rfl _ _ _) rfl ?_
        exact ⟨⟨_, rfl⟩, false, HK2.out.mono (fun _ _ h => .inl h), .inr ⟨rfl, _, F', Hpre.out, HJ4.out, HF2.out, trivial⟩⟩
    · obtain rfl : k = n := by omega
      gi_wp2
      go_end0
      exact ⟨⟨_, rfl⟩, true, hKk.out.mono (fun _ _ h => .inl h), .inl ⟨rfl, F, hJk.out, hFk.out, trivial⟩⟩
/-- The sequence of a disk's blocks. -/
theorem all1_ok {d : Value} {n e0 : Nat} {B : List Nat} {X : NSet} {W : World} (hd : DkL W d n B X) (he : Blk W e0 [d] 44) :
    SeqOk2 Try.prog (.func (.func 65) #[] #[.pointer (some ⟨e0, 0, none⟩)]) (EK B) (List.range n) (fun k => k = e0 ∨ X k) (fun _ => False) (fun _ _ _ => True) W := by
  refine ⟨.inl ⟨_, _, rfl⟩, ?_, fun _ _ h => h, EK.ok _ _, fun _ _ _ _ _ _ _ _ => trivial, ?_⟩
  · rintro k ((h | h) | h)
    · rw [h]; exact he.lt
    · exact hd.lt k h
    · exact h.elim
  · intro _ W' S hk hS
    exact all1_at (hd.kept hk (fun k h hx => (hS k h).1 (.inr hx))) (hk.blk he (fun h => (hS _ h).1 (.inl rfl)))
theorem all_at (w : World) (d : Value) (n : Nat) (B : List Nat) (h : DkAt w d n B) : Calls Try.prog 44 #[d] w fun e w' => ∃ e0, e = .returned (.func (.func 65) #[] #[.pointer (some ⟨e0, 0, none⟩)]) ∧ Blk w' e0 [d] 44 ∧ w.heap.size ≤ e0 ∧ Kept (fun _ => False) w w' := by
  obtain ⟨a, rfl, _⟩ := h.ptr
  clear h
  go_enter Try.func44, Try.ntmps44
  go_wp2_with ((with_reducible refine aw_box (t := 44) (v := .pointer a) rfl ?_); intro w1 hb1 hk1 hz1; have Hb1 := hide hb1; have Hk1 := hide hk1; clear hb1 hk1 hz1)
  go_ret
  exact ⟨_, rfl, Hb1.out, Nat.le_refl _, Hk1.out⟩
end Go.Proofs.Ytakpkibjpjcgbaa
