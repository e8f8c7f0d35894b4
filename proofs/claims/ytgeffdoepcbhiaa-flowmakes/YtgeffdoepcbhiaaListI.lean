/-
  List, for elements of one type.
-/
import Derived.Test.YtgeffdoepcbhiaaOfI
namespace Go.Proofs.Ytgeffdoepcbhiaa
open Go.RowKit Go.Shelf
set_option linter.unusedSimpArgs false
set_option linter.unusedVariables false
attribute [local go_sem] Oper.semAt_some

/-- What holds while List goes through a sequence. -/
def ListJI {α : Type} (E : EncR α) (b : Nat) (pre : List α) (F : NSet) (W : World) : Prop :=
  ∃ kv vs G, Blk W b [kv] 22 ∧ W.ownsRow 0 3 1 kv vs.length vs ∧ Els E pre vs G W ∧ F = (fun k => k = b ∨ kv.ownBlock = some k ∨ G k) ∧ ¬ G b ∧ (∀ k, kv.ownBlock = some k → ¬ G k ∧ k ≠ b) ∧ ∀ k, G k → k < W.heap.size
theorem ListJI.stab {α : Type} {E : EncR α} {X C : NSet} (hE : EOk X E) {b B : Nat} (hX : ∀ k, X k → k < B ∧ ¬ C k) (pre : List α) : Stab B C (ListJI E b pre) := by
  refine ⟨?_, ?_⟩
  · rintro F W ⟨kv, vs, G, hb, ho, he, rfl, hGb, hGk, hGl⟩ k (h | h | h)
    · rw [h]; exact hb.lt
    · exact ownsRow_lt ho k h
    · exact hGl k h
  · rintro F W W' S ⟨kv, vs, G, hb, ho, he, rfl, hGb, hGk, hGl⟩ hk h1 h2
    exact ⟨kv, vs, G, hk.blk hb (fun h => h1 b h (.inl rfl)), ownsRow_kept ho hk (fun k h h' => h1 k h' (.inr (.inl h))), he.kept hE hk (fun k h => ⟨fun h' => h1 k h (.inr (.inr h')), fun h' => (hX k h').2 (h2 k h (hX k h').1)⟩), rfl, hGb, hGk, fun k h => Nat.lt_of_lt_of_le (hGl k h) hk.size⟩

set_option maxRecDepth 100000 in
set_option maxHeartbeats 1000000 in
theorem listwI {α : Type} {E : EncR α} {X : NSet} (hE : EOk X E) (hEv : ∀ x v G W, E x v G W → v.cells = #[v] ∧ v.oneCell' = true) {xs : List α} (hl : xs.length ≤ 1000000) {B : Nat} {F0 : NSet} {b : Nat} (hb : b < B) (hX : ∀ k, X k → k < B ∧ k ≠ b ∧ ¬ F0 k) :
    Takes Try.prog E xs B F0 (.func (.func 39) #[] #[.pointer (some ⟨b, 0, none⟩)]) (ListJI E b) (fun _ _ _ => False) := by
  rintro pre x post F G v W hxs ⟨kv, vs, Gl, hbk, ho, he, rfl, hGb, hGk, hGl⟩ hBW hF hEx hG
  obtain ⟨i0, hi0, hz0, hs0, hb0⟩ := info_parts Try.info3
  obtain ⟨i1, hi1, hz1, hs1, hb1⟩ := info_parts Try.info22
  obtain ⟨hvc, hv1⟩ := hEv x v G W hEx
  have hlen : vs.length < xs.length := by rw [← he.1, hxs]; simp
  have HEx := hide hEx
  have HE := hide hE
  have He := hide he
  have HB := hide hbk
  have HO := hide ho
  have HG := hide hG
  have HGk := hide hGk
  have HGl := hide hGl
  have HF := hide hF
  have HX := hide hX
  have Hxs := hide hxs
  have Hi0 := hide hi0
  have Hz0 := hide hz0
  have Hs0 := hide hs0
  have Hb0 := hide hb0
  have Hi1 := hide hi1
  have Hs1 := hide hs1
  obtain ⟨ao, cc, rfl⟩ := ownsRow_slice ho
  have c0 : W.cell? ⟨b, 0, none⟩ = some (.slice ao vs.length cc) := hbk.cell 0
  have Hvc := hide hvc
  have Hv1 := hide hv1
  clear hE hEx he hbk ho hG hGk hGl hF hX hxs hi0 hz0 hs0 hb0 hi1 hz1 hs1 hb1 hvc hv1 hEv
  refine .inl ⟨_, _, rfl, enters_of Try.func39 (by kernel_rfl) rfl, ?_⟩
  show Calls Try.prog 39 #[v, .pointer (some ⟨b, 0, none⟩)] W _
  go_enter Try.func39, Try.ntmps39
  go_wp2_with (with_reducible refine stop_bs 22 ?_)
  refine hide ?_
  refine wpList_run rfl (run_bs1 Try.underlying22 Hi0.out Hz0.out Hs0.out [v] rfl (by simp) (by simpa using Hvc.out) rfl) ?_
  have hbA := Blk.new W [v] 3
  have hkA : Kept (fun _ => False) W (W.alloc (.cells [v].toArray 3)) := Kept.alloc _ _ _
  have hszA : (W.alloc (.cells [v].toArray 3)).heap.size = W.heap.size + 1 := by simp
  generalize W.alloc (.cells [v].toArray 3) = A1 at hbA hkA hszA
  have hoA := ownsRow_kept HO.out hkA (fun _ _ h => h)
  obtain ⟨kv', A2, hr, h2, h3, h5⟩ := append_row (P := Try.prog) (ty := 22) (u := .slice (some ⟨W.heap.size, 0, none⟩) 1 1) (vs := [v]) Try.underlying22 Hi0.out Hz0.out Hs0.out Hb0.out rfl (by decide) hoA ⟨_, 1, rfl, by simp, fun _ => ⟨_, 0, rfl, by have := hbA.cells 0 1; simpa using this⟩, fun h => by cases h⟩ (by simpa using Hv1.out) (by simp; omega)
  have Hr := hide hr
  have hbA2 : Blk A2 b [.slice ao vs.length cc] 22 := h3.blk (hkA.blk HB.out (fun h => h)) (fun h => (HGk.out b h).2 rfl)
  have heA2 : Els E pre vs Gl A2 := (He.out.kept HE.out hkA (fun _ h => h.elim)).kept HE.out h3 (fun k h => ⟨(HGk.out k h).1, fun hx => by
    have h1 := HF.out k (.inr (.inl h))
    have h2 := HX.out k hx
    rcases h1 with h1 | h1
    · exact h2.2.2 h1
    · omega⟩)
  have hxA2 : E x v G A2 := HE.out _ _ _ _ _ _ (HE.out _ _ _ _ _ _ HEx.out hkA (fun _ h => h.elim)) h3 (fun k h => ⟨fun hg => (HG.out k hg).1 (.inr (.inl h)), fun hx => by
    have h1 := HF.out k (.inr (.inl h))
    have h2 := HX.out k hx
    rcases h1 with h1 | h1
    · exact h2.2.2 h1
    · omega⟩)
  have hkA2 : Kept (fun k => k = b ∨ (Value.slice ao vs.length cc).ownBlock = some k) W A2 := (hkA.mono (T := fun k => k = b ∨ (Value.slice ao vs.length cc).ownBlock = some k) (fun _ _ h => h.elim)).trans h3 (fun _ _ h => .inr h)
  obtain ⟨ao', cc', rfl⟩ := ownsRow_slice h2
  have H2 := hide h2
  have H5 := hide h5
  have HbA2 := hide hbA2
  have HeA2 := hide heA2
  have HxA2 := hide hxA2
  have HkA2 := hide hkA2
  have HszA := hide hszA
  clear hbA hkA hszA hoA hr h2 h3 h5 hbA2 heA2 hxA2 hkA2 c0
  try simp only [put_lit, List.set_cons_succ, List.set_cons_zero]
  refine wpList_run rfl (r_app rfl rfl Hr.out) ?_
  try simp only [put_lit, List.set_cons_succ, List.set_cons_zero]
  refine aw_store1 (v := .slice ao' (vs.length + [v].length) cc') Hi1.out Hs1.out rfl rfl rfl rfl HbA2.out (by simp) ?_
  intro w3 hb3 hk3 hz3
  have Hb3 := hide hb3
  have Hk3 := hide hk3
  clear hb3 hk3 hz3 Hr
  try simp only [put_lit, put_none, List.set_cons_succ, List.set_cons_zero]
  go_wp2
  go_ret
  have hblt := HB.out.lt
  have hk3' : Kept (fun k => (k = b ∨ (Value.slice ao vs.length cc).ownBlock = some k ∨ Gl k) ∨ G k) W w3 := (HkA2.out.mono (T := fun k => (k = b ∨ (Value.slice ao vs.length cc).ownBlock = some k ∨ Gl k) ∨ G k) (fun k _ h => h.elim (fun h => .inl (.inl h)) (fun h => .inl (.inr (.inl h))))).trans Hk3.out (fun k _ h => .inl (.inl h))
  have hown' : ∀ k, (Value.slice ao' (vs.length + [v].length) cc').ownBlock = some k → (Value.slice ao vs.length cc).ownBlock = some k ∨ W.heap.size + 1 = k := fun k h => by
    rcases H5.out with h' | h'
    · rw [h'] at h; exact .inl h
    · rw [h'] at h; cases h; exact .inr HszA.out.symm
  have hGlt : ∀ k, Gl k → k < W.heap.size := HGl.out
  have hGb2 : ¬ G b := fun h => (HG.out b h).1 (.inl rfl)
  have hnb : ∀ k, (Value.slice ao' (vs.length + [v].length) cc').ownBlock = some k → k ≠ b := fun k h => by
    rcases hown' k h with h | h
    · exact (HGk.out k h).2
    · omega
  refine ⟨fun k => k = b ∨ (Value.slice ao' (vs.length + [v].length) cc').ownBlock = some k ∨ (Gl k ∨ G k), .inl ⟨rfl, _, vs ++ [v], fun k => Gl k ∨ G k, Hb3.out, ?_, ?_, rfl, ?_, ?_, ?_⟩, hk3', ?_⟩
  · have := ownsRow_kept H2.out Hk3.out (fun k h h' => hnb k h h')
    simpa using this
  · exact (HeA2.out.snoc HxA2.out).kept HE.out Hk3.out (fun k h => ⟨fun h' => by
      rcases h' with h' | h'
      · exact hGb (h ▸ h')
      · exact hGb2 (h ▸ h'), fun hx => (HX.out k hx).2.1 h⟩)
  · rintro (h | h)
    · exact hGb h
    · exact hGb2 h
  · intro k h
    refine ⟨fun h' => ?_, hnb k h⟩
    rcases hown' k h with h1 | h1
    · rcases h' with h' | h'
      · exact (HGk.out k h1).1 h'
      · exact (HG.out k h').1 (.inr (.inl h1))
    · rcases h' with h' | h'
      · have := hGlt k h'; omega
      · have := (HG.out k h').2; omega
  · have hs3 := hk3'.size
    rintro k (h | h)
    · have := hGlt k h; omega
    · have := (HG.out k h).2; omega
  · rintro k (h | h | h | h)
    · exact .inl (.inl h)
    · rcases hown' k h with h | h
      · exact .inl (.inr (.inl h))
      · exact .inr (.inr (by omega))
    · exact .inl (.inr (.inr h))
    · exact .inr (.inl h)

set_option maxRecDepth 100000 in
set_option maxHeartbeats 1000000 in
theorem list_atI {α : Type} {sv : Value} {E : EncR α} {xs : List α} {X C : NSet} {Post : Bool → List α → World → Prop} {W : World} (hs : SeqOk Try.prog sv E xs X C Post W) (hEv : ∀ x v G W, E x v G W → v.cells = #[v] ∧ v.oneCell' = true) (hl : xs.length ≤ 1000000) :
    Calls Try.prog 9 #[sv] W fun e W' => ∃ kv vs G, e = .returned kv ∧ W'.ownsRow 0 3 1 kv xs.length vs ∧ Els E xs vs G W' ∧ Kept C W W' ∧ Post true xs W' ∧ (∀ k, kv.ownBlock = some k → W.heap.size ≤ k) ∧ (∀ k, G k → W.heap.size ≤ k ∧ k < W'.heap.size ∧ kv.ownBlock ≠ some k) := by
  obtain ⟨i1, hi1, hz1, hs1, hb1⟩ := info_parts Try.info22
  have Hi1 := hide hi1
  have Hz1 := hide hz1
  have Hrun : Hid (∀ w1, Kept (fun _ => False) W w1 → w1.heap.size = W.heap.size + 1 → Blk w1 W.heap.size [.slice none 0 0] 22 → Calls Try.prog 38 #[sv, .func (.func 39) #[] #[.pointer (some ⟨W.heap.size, 0, none⟩)]] w1 fun e W' => (∃ u, e = .returned (.bool u)) ∧ ∃ kv vs G, Blk W' W.heap.size [kv] 22 ∧ W'.ownsRow 0 3 1 kv xs.length vs ∧ Els E xs vs G W' ∧ Kept C W W' ∧ Post true xs W' ∧ (∀ k, kv.ownBlock = some k → W.heap.size ≤ k) ∧ (∀ k, G k → W.heap.size ≤ k ∧ k < W'.heap.size ∧ kv.ownBlock ≠ some k)) := hide (fun w1 hk1 hz1 hb1 => by
    have hXl : ∀ k, X k ∨ C k → k < W.heap.size := hs.lt
    refine (each_atI (hs.kept hk1 (fun _ h => h.elim)) (tv := .func (.func 39) #[] #[.pointer (some ⟨W.heap.size, 0, none⟩)]) (J := ListJI E W.heap.size) (Jx := fun _ _ _ => False) (F0 := fun k => k = W.heap.size) ⟨_, _, rfl⟩
      (ListJI.stab hs.enc (fun k h => ⟨by have := hXl k (.inl h); omega, hs.apart k h⟩)) (fun _ => ⟨fun _ _ h => h.elim, fun _ _ _ _ h => h.elim⟩)
      (fun k h => ⟨fun hx => by have := hXl k (.inl hx); omega, fun hx => by have := hXl k (.inr hx); omega⟩) (listwI hs.enc hEv hl (by omega) (fun k h => by have := hXl k (.inl h); exact ⟨by omega, by omega, by omega⟩))
      ⟨.slice none 0 0, [], fun _ => False, hb1, World.ownsRow_nil _ _ _ _, ⟨rfl, fun i x v h => by simp at h⟩, by
        funext k
        simp [Value.ownBlock], (fun h => h), (fun k h => by simp [Value.ownBlock] at h), fun _ h => h.elim⟩).mono ?_
    rintro e W' ⟨b, rfl, hkW, hcase⟩
    refine ⟨⟨_, rfl⟩, ?_⟩
    rcases hcase with ⟨rfl, F', ⟨kv, vs, G, h1, h2, h3, rfl, h4, h5, h6⟩, hF', hP⟩ | ⟨rfl, pre, F', _, h, _⟩
    · refine ⟨kv, vs, G, h1, ?_, h3, hk1.mono (fun _ _ h => h.elim) |>.trans hkW (fun k hk h => ?_), hP, fun k h => ?_, fun k h => ⟨?_, h6 k h, fun h' => (h5 k h').1 h⟩⟩
      · rw [h3.1]; exact h2
      · rcases h with h | h
        · omega
        · exact h
      · rcases hF' k (.inr (.inl h)) with h | h <;> omega
      · rcases hF' k (.inr (.inr h)) with h | h <;> omega
    · exact h.elim)
  clear hi1 hz1 hs1 hb1 hs hEv
  go_enter Try.func9, Try.ntmps9
  go_wp2_with (first
    | ((with_reducible refine aw_alloc (t := 22) Hi1.out Hz1.out ?_); intro w1 hb1 hk1 hz1; have Hr1 := hide (Hrun.out w1 hk1 hz1 hb1); clear hb1 hz1)
    | fail)
  refine Hr1.out.mono ?_
  rintro e w2 ⟨⟨u, rfl⟩, kv, vs, G, h1, h2, h3, h4, h5, h6, h7⟩
  have c0 : w2.cell? ⟨W.heap.size, 0, none⟩ = some kv := h1.cell 0
  obtain ⟨ao, cc, rfl⟩ := ownsRow_slice h2
  have H2 := hide h2
  have H3 := hide h3
  have H4 := hide h4
  have H5 := hide h5
  have H6 := hide h6
  have H7 := hide h7
  clear h1 h2 h3 h4 h5 h6 h7
  go_wp2
  go_ret
  exact ⟨_, vs, G, rfl, H2.out, H3.out, H4.out, H5.out, H6.out, H7.out⟩
set_option maxHeartbeats 1000000 in
theorem list_nilI (W : World) : Calls Try.prog 9 #[.nilFunc] W fun e W' => e = .returned (.slice none 0 0) ∧ Kept (fun _ => False) W W' := by
  obtain ⟨i1, hi1, hz1, hs1, hb1⟩ := info_parts Try.info22
  have Hi1 := hide hi1
  have Hz1 := hide hz1
  clear hi1 hz1 hs1 hb1
  go_enter Try.func9, Try.ntmps9
  go_wp2_with (first
    | ((with_reducible refine aw_alloc (t := 22) Hi1.out Hz1.out ?_); intro w1 hb1 hk1 hz1; have Hb1 := hide hb1; have Hk1 := hide hk1; clear hb1 hz1 hk1)
    | (go_at_call 38; refine (each_nilI _ ⟨_, _, rfl⟩ w1).mono ?_; rintro e w2 ⟨rfl, hk2⟩; have c0 : w2.cell? ⟨W.heap.size, 0, none⟩ = some (.slice none 0 0) := (hk2.blk Hb1.out (fun h => h)).cell 0; have Hk2 := hide hk2; clear hk2))
  go_ret
  exact ⟨rfl, Hk1.out.trans Hk2.out (fun _ _ h => h)⟩
end Go.Proofs.Ytgeffdoepcbhiaa
