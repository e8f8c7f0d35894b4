/-
  slices.Insert of one entry, slices.Delete of one, slices.Clone: over a slice of one's own.
-/
import Derived.Test.YtclfklcboigifaaFindW
import Derived.Lib.Overlaps
namespace Go.Proofs.Ytclfklcboigifaa
open Go.RowKit Go.Shelf
set_option linter.unusedSimpArgs false
set_option linter.unusedVariables false

theorem encOneW : ∀ (l : List EntB), ∀ u ∈ encE ekB evB l, u.oneCell' = true := encE_one (fun _ => rfl) (fun _ => rfl)

/-- What slices.Insert leaves. -/
def InsOkW (w : World) (v : Value) (l : List EntB) (e : Ending) (w' : World) : Prop :=
  ∃ v', e = .returned v' ∧ OwnW w' v' l ∧ Kept (fun k => v.ownBlock = some k) w w' ∧ (v'.ownBlock = v.ownBlock ∨ ∃ g, v'.ownBlock = some g ∧ w.heap.size ≤ g)

set_option maxRecDepth 100000 in
set_option maxHeartbeats 4000000 in
theorem ins_endW (w : World) (v : Value) (l : List EntB) (gv : Nat) (x : EntB) (ho : OwnW w v l) (hgv : Blk w gv [(Value.int .i64 (x.1)), (Value.slice (x.2).a (x.2).n (x.2).c)] 85) (hl : l.length ≤ 1000000) :
    Calls Try.prog 34 #[v, .int .i64 (l.length : Nat), .slice (some ⟨gv, 0, none⟩) 1 1] w (InsOkW w v (insK l l.length x)) := by
  obtain ⟨i0, hi, hz, hs, hb⟩ := info_parts Try.info85
  obtain ⟨v', w', hr, h2, h3, _, h5⟩ := run_append_own_at (P := Try.prog) w 0 80 80 85 i0 _ 2 32 Try.underlying80 hi hz hs hb rfl (by decide) v l.length _ ho ⟨gv, 0, none⟩ 1 1 [(Value.int .i64 (x.1)), (Value.slice (x.2).a (x.2).n (x.2).c)] rfl (fun j u hj => by rw [addr_add, hgv.cell, Nat.zero_add]; exact hj) (by simp [Value.oneCell']) (by unfold maxLen; omega) (by omega) (Nat.zero_le _)
  have HR := hide hr
  have hfin : InsOkW w v (insK l l.length x) (.returned v') w' := by
    refine ⟨v', rfl, ?_, Kept.of_grown h3, h5.imp id (fun h => ⟨_, h, Nat.le_refl _⟩)⟩
    have e1 : insK l l.length x = l ++ [x] := by simp [insK]
    rw [e1]
    unfold OwnW
    rw [encE_append, List.length_append]
    exact h2
  have HF := hide hfin
  have hln : ((l.length : Nat) : Int) ≤ 1000000 := by omega
  clear hr h2 h3 h5 hfin hi hz hs hb hgv
  rcases ownsRow_blk ho with ⟨rfl, h0, _⟩ | ⟨g, cap, C, rfl, hb, hnc, hcm, hC⟩
  · obtain rfl : l = [] := List.eq_nil_of_length_eq_zero h0
    clear ho
    go_enter Try.func34, Try.ntmps34
    go_wp2_with (with_reducible refine stop_app2 80 80 ?_)
    refine hide ?_
    refine wpList_run rfl (r_app rfl rfl HR.out) ?_
    go_wp2
    go_ret
    exact HF.out
  · unfold maxLen at hcm
    clear ho hb hC
    by_cases hcl : cap = l.length
    · have HC := hide hcl
      obtain ⟨n, hn⟩ : ∃ n, n = l.length := ⟨_, rfl⟩
      rw [← hn] at hcl
      subst hcl
      rw [← hn] at HR HF hln ⊢
      have Hn := hide hn
      clear hn hnc
      go_enter Try.func34, Try.ntmps34
      go_wp2_with (with_reducible refine stop_app2 80 80 ?_)
      refine hide ?_
      refine wpList_run rfl (r_app rfl rfl HR.out) ?_
      go_wp2
      go_ret
      exact HF.out
    · have hcl' : ¬ cap = l.length := hcl
      go_enter Try.func34, Try.ntmps34
      go_wp2_with (with_reducible refine stop_app2 80 80 ?_)
      refine hide ?_
      refine wpList_run rfl (r_app rfl rfl HR.out) ?_
      go_wp2
      go_ret
      exact HF.out

theorem ins_cellsW (l : List EntB) (i : Nat) (x : EntB) (hi : i ≤ l.length) : encE ekB evB (insK l i x) = (encE ekB evB l).take (i * 2) ++ [(Value.int .i64 (x.1)), (Value.slice (x.2).a (x.2).n (x.2).c)] ++ (encE ekB evB l).drop (i * 2) := by
  unfold insK
  rw [encE_append, encE_take]
  simp [encE, encE_drop]

set_option maxRecDepth 100000 in
set_option maxHeartbeats 4000000 in
theorem ins_growW (w : World) (v : Value) (l : List EntB) (i gv : Nat) (x : EntB) (g : Nat) (ho : OwnW w (.slice (some ⟨g, 0, none⟩) l.length l.length) l) (hi : i < l.length) (hgv : Blk w gv [(Value.int .i64 (x.1)), (Value.slice (x.2).a (x.2).n (x.2).c)] 85) (hl : l.length ≤ 1000000) :
    Calls Try.prog 34 #[.slice (some ⟨g, 0, none⟩) l.length l.length, .int .i64 (i : Nat), .slice (some ⟨gv, 0, none⟩) 1 1] w (InsOkW w (.slice (some ⟨g, 0, none⟩) l.length l.length) (insK l i x)) := by
  obtain ⟨i0, hi0, hz0, hs0, hb0⟩ := info_parts Try.info85
  rcases ownsRow_blk ho with ⟨h, _⟩ | ⟨g', cap, C, he, hb, hnc, hcm, hC⟩
  · cases h
  cases he
  obtain rfl : C = [] := List.eq_nil_of_length_eq_zero (by rw [hC]; omega)
  rw [List.append_nil] at hb
  have hlen := encE_length (ek := ekB) (ev := evB) l
  have hsplit : Blk w g ((encE ekB evB l).take (i * 2) ++ (encE ekB evB l).drop (i * 2)) 85 := by rw [List.take_append_drop]; exact hb
  obtain ⟨cap', Z, w1, hr, hb1, hge, hcm', hZ, hk1, hsz1⟩ := append_make_grow (P := Try.prog) (ty := 80) (i := i) (c := l.length + 1 - i) (cap := l.length) Try.underlying80 Try.underlying3 hi0 hz0 hs0 hb0 rfl hsplit (by rw [List.length_take]; omega) (by omega) (by omega) (by omega)
  rw [show i + (l.length + 1 - i) = l.length + 1 by omega] at hr hge
  have hgw : g < w.heap.size := hb.lt
  have hgvw : gv < w.heap.size := hgv.lt
  have hb' := hk1.blk hb (fun h => h)
  have hgv' := hk1.blk hgv (fun h => h)
  obtain ⟨n, hn⟩ : ∃ n, n = l.length := ⟨_, rfl⟩
  obtain ⟨L, hL⟩ : ∃ L, L = encE ekB evB l := ⟨_, rfl⟩
  have hone : ∀ u ∈ L, u.oneCell' = true := by rw [hL]; exact encOneW l
  have hins := ins_cellsW l i x (by omega)
  have hinl := insK_length l i x (by omega)
  rw [← hL] at hlen hb hb1 hb' hsplit hZ hins
  rw [← hn] at hr hge hl hi hlen hinl ⊢
  have HR := hide hr
  have HB1 := hide hb1
  have HB := hide hb'
  have HG := hide hgv'
  have HZ := hide hZ
  have HO := hide hone
  have HI := hide hins
  have HIl := hide hinl
  have HLn := hide hlen
  have Hi0 := hide hi0
  have Hs0 := hide hs0
  have Hsz := hide hsz1
  unfold maxLen at hcm'
  have hin : ¬ (i : Int) = (n : Int) := by omega
  have hni : ¬ n = i := by omega
  have hnw : IntKind.i64.wrap ((n : Int) + 1) = ((n + 1 : Nat) : Int) := by rw [IntKind.wrap_i64]; omega
  have hsub : ((n + 1 : Nat) : Int) - (i : Int) = ((n + 1 - i : Nat) : Int) := by omega
  clear hr hb1 hb hb' hgv hgv' hZ hone hins hinl hlen hi0 hz0 hs0 hb0 hsz1 hL hn ho hnc hC hcm hsplit
  go_enter Try.func34, Try.ntmps34
  go_wp2_with (with_reducible refine stop_app2 80 3 ?_)
  refine hide ?_
  refine wpList_run rfl (r_app rfl (congrArg (Value.int .i64) (show (n : Int) + 1 - (i : Int) = ((n + 1 - i : Nat) : Int) by omega)) HR.out) ?_
  have hci : ¬ cap' = i := by omega
  have hci1 : ¬ cap' = i + 1 := by omega
  go_wp2_with ((with_reducible refine aw_copy Try.underlying80 Hi0.out 2 Hs0.out rfl rfl 1 (by omega) HB1.out HG.out (by simp) (by rw [HZ.out]; omega) (by simp [Value.oneCell']) ?_); intro w2 hw2 hk2 hz2; have HW2 := hide hw2; have HZ2 := hide hz2; clear hw2 hz2)
  refine region_tail 8 Try.mixed (by kernel_rfl) ?_
  intro w3 hk3 hz3
  have Hz3 := hide hz3
  clear hz3
  simp only [List.take_succ_cons, List.take_zero, List.drop_succ_cons, List.drop_zero]
  have hw1 : IntKind.i64.wrap ((i : Int) + 1) = ((i + 1 : Nat) : Int) := by rw [IntKind.wrap_i64]; omega
  still_step
  still_step
  still_step
  still_step
  clear hw1
  refine st_slice_lo (k := .i64) Try.underlying80 Hi0.out 2 Hs0.out rfl (i + 1) (by simp [Act.eval]) (by omega) (by omega) ?_
  still_step
  still_step
  refine st_slice_lo (k := .i64) Try.underlying80 Hi0.out 2 Hs0.out rfl i rfl (by omega) (by omega) ?_
  refine wpStill_nil ?_
  have hgne : g ≠ w.heap.size := by omega
  refine aw_copy Try.underlying80 Hi0.out 2 Hs0.out rfl rfl (n - i) (by rw [Nat.min_def]; split <;> omega) (hk3.blk HW2.out (fun h => h)) (hk3.blk (hk2.blk HB.out hgne) (fun h => h)) (by rw [HLn.out, Nat.sub_mul]; omega) (by rw [length_put _ _ _ (by rw [HZ.out]; simp; omega), HZ.out]; omega) HO.out ?_
  intro w4 hw4 hk4 hz4
  have HW4 := hide hw4
  have HZ4 := hide hz4
  clear hw4 hz4
  simp only [wpList]
  go_wp2
  go_ret
  refine ⟨_, rfl, ?_, ?_, .inr ⟨_, rfl, Nat.le_refl _⟩⟩
  · have hw4 := HW4.out
    have hLn := HLn.out
    have hZ := HZ.out
    rw [List.length_append, List.length_take, Nat.min_eq_left (by omega)] at hZ
    have h1 : (L.drop (i * 2)).length = (n - i) * 2 := by rw [List.length_drop]; omega
    have h2 : (L.take (i * 2)).length = i * 2 := by rw [List.length_take]; omega
    try simp only [Nat.zero_add] at hw4
    show OwnW w4 (.slice (some ⟨w.heap.size, 0, none⟩) (n + 1) cap') _
    rw [List.take_of_length_le (l := L.drop (i * 2)) (by omega), show List.take (1 * 2) (List.drop 0 [(Value.int .i64 (x.1)), (Value.slice (x.2).a (x.2).n (x.2).c)]) = [(Value.int .i64 (x.1)), (Value.slice (x.2).a (x.2).n (x.2).c)] from rfl, put_ins _ _ _ _ _ _ h2.symm (by rw [h2]; simp; omega)] at hw4
    have hbw := hw4
    rw [← HI.out] at hbw
    unfold OwnW
    rw [HIl.out]
    refine ownsRow_of hbw (by rw [encE_length, HIl.out]) hge (by unfold maxLen; exact hcm') ?_
    rw [List.length_drop, h1]
    simp only [List.length_cons, List.length_nil]
    omega
  · have hka : Kept (fun k => (Value.slice (some ⟨g, 0, none⟩) n n).ownBlock = some k) w w1 := hk1.mono (fun _ _ h => h.elim)
    exact ((hka.trans hk2 (fun j hj h => by omega)).trans hk3 (fun _ _ h => h.elim)).trans hk4 (fun j hj h => by omega)

set_option maxRecDepth 100000 in
set_option maxHeartbeats 4000000 in
theorem ins_roomW (w : World) (l : List EntB) (i gv : Nat) (x : EntB) (g cap : Nat) (ho : OwnW w (.slice (some ⟨g, 0, none⟩) l.length cap) l) (hroom : l.length + 1 ≤ cap) (hi : i < l.length) (hgv : Blk w gv [(Value.int .i64 (x.1)), (Value.slice (x.2).a (x.2).n (x.2).c)] 85) (hne : gv ≠ g) (hl : l.length ≤ 1000000) :
    Calls Try.prog 34 #[.slice (some ⟨g, 0, none⟩) l.length cap, .int .i64 (i : Nat), .slice (some ⟨gv, 0, none⟩) 1 1] w (InsOkW w (.slice (some ⟨g, 0, none⟩) l.length cap) (insK l i x)) := by
  obtain ⟨i0, hi0, hz0, hs0, hb0⟩ := info_parts Try.info85
  rcases ownsRow_blk ho with ⟨h, _⟩ | ⟨g', cap', C, he, hb, hnc, hcm, hC⟩
  · cases h
  cases he
  have hlen := encE_length (ek := ekB) (ev := evB) l
  have hgw : g < w.heap.size := hb.lt
  obtain ⟨n, hn⟩ : ∃ n, n = l.length := ⟨_, rfl⟩
  obtain ⟨L, hL⟩ : ∃ L, L = encE ekB evB l := ⟨_, rfl⟩
  have hins := ins_cellsW l i x (by omega)
  have hinl := insK_length l i x (by omega)
  rw [← hL] at hlen hb hins
  rw [← hn] at hroom hl hi hlen hinl hC hnc ⊢
  have hsz : ∀ w, (sizeOf 85).run Try.prog w = .ok 2 w := run_sizeOf Try.agg85
  have hov : ∀ lb cb, (callFunc 43 #[.slice (some ⟨gv, 0, none⟩) 1 1, .slice (some ⟨g, (i + 1) * 2, none⟩) lb cb]).run Try.prog w = .ok (.value (.bool false)) w := fun lb cb => by
    rw [run_callFunc_extern Try.func43 (by kernel_rfl) (by kernel_rfl) (by kernel_rfl) (e := Extern.SlicesOverlaps.overlaps #[80, 80] #[4]) (by kernel_rfl),
      Lib.run_overlaps_apart w 80 4 85 Try.underlying80 2 hsz ⟨gv, 0, none⟩ ⟨g, (i + 1) * 2, none⟩ 1 1 lb cb hne _ _ _ _ hgv.shape hb.shape (by rw [List.length_append]; omega) (hgv.frozen 0) (hgv.frozen _)]
    rfl
  have HB := hide hb
  have HG := hide hgv
  have HI := hide hins
  have HIl := hide hinl
  have HLn := hide hlen
  have HC := hide hC
  have Hi0 := hide hi0
  have Hs0 := hide hs0
  have HLone : Hid (∀ u ∈ L, u.oneCell' = true) := hide (by rw [hL]; exact encOneW l)
  unfold maxLen at hcm
  have hin : ¬ (i : Int) = (n : Int) := by omega
  have hni : ¬ cap = i := by omega
  have hni1 : ¬ cap = i + 1 := by omega
  clear hb hgv hins hinl hlen hi0 hz0 hs0 hb0 hL hn ho hC hsz
  go_enter Try.func34, Try.ntmps34
  go_wp2_with (simp only [hov])
  clear hov
  refine region_tail 8 Try.mixed (by kernel_rfl) ?_
  intro w3 hk3 hz3
  have Hz3 := hide hz3
  clear hz3
  simp only [List.take_succ_cons, List.take_zero, List.drop_succ_cons, List.drop_zero]
  have hw1 : IntKind.i64.wrap ((i : Int) + 1) = ((i + 1 : Nat) : Int) := by rw [IntKind.wrap_i64]; omega
  still_step
  still_step
  still_step
  still_step
  clear hw1
  refine st_slice_lo (k := .i64) Try.underlying80 Hi0.out 2 Hs0.out rfl (i + 1) (by simp [Act.eval]) (by omega) (by omega) ?_
  still_step
  still_step
  refine st_slice_lo (k := .i64) Try.underlying80 Hi0.out 2 Hs0.out rfl i rfl (by omega) (by omega) ?_
  refine wpStill_nil ?_
  have hB3 := hk3.blk HB.out (fun h => h)
  have hcc : Cells w3 g (0 + i * 2) (L.drop (i * 2)) := by
    have h := hB3.cells (0 + i * 2) ((n - i) * 2)
    rw [Nat.zero_add, List.drop_append_of_le_length (by rw [HLn.out]; omega), List.take_append_of_le_length (by rw [List.length_drop, HLn.out]; omega), List.take_of_length_le (by rw [List.length_drop, HLn.out]; omega)] at h
    rw [Nat.zero_add]
    exact h
  refine aw_copyC Try.underlying80 Hi0.out 2 Hs0.out rfl rfl (n - i) (by rw [Nat.min_def]; split <;> omega) hB3 hcc (by rw [List.length_drop, HLn.out]; omega) (by rw [List.length_append, HLn.out, HC.out]; omega) (fun u hu => HLone.out u (List.mem_of_mem_drop hu)) ?_
  intro w4 hw4 hk4 hz4
  have HW4 := hide hw4
  have HG4 := hide (hk4.blk (hk3.blk HG.out (fun h => h)) hne)
  have HZ4 := hide hz4
  clear hw4 hz4 hcc hB3
  simp only [wpList]
  go_wp2_with ((with_reducible refine aw_copy Try.underlying80 Hi0.out 2 Hs0.out rfl rfl 1 (by omega) HW4.out HG4.out (by simp) (by rw [length_put _ _ _ (by rw [List.length_append, List.length_drop, HLn.out, HC.out]; omega), List.length_append, HLn.out, HC.out]; omega) (by simp [Value.oneCell']) ?_); intro w5 hw5 hk5 hz5; have HW5 := hide hw5; clear hw5 hz5)
  go_ret
  refine ⟨_, rfl, ?_, ?_, .inl rfl⟩
  · have hw5 := HW5.out
    have hLn := HLn.out
    have hC := HC.out
    try simp only [Nat.zero_add] at hw5
    show OwnW w5 (.slice (some ⟨g, 0, none⟩) (n + 1) cap) _
    have h2 : (L.take (i * 2)).length = i * 2 := by rw [List.length_take]; omega
    rw [show List.take (1 * 2) (List.drop 0 [(Value.int .i64 (x.1)), (Value.slice (x.2).a (x.2).n (x.2).c)]) = [(Value.int .i64 (x.1)), (Value.slice (x.2).a (x.2).n (x.2).c)] from rfl] at hw5
    have e : L ++ C = L.take (i * 2) ++ L.drop (i * 2) ++ C := by rw [List.take_append_drop]
    rw [e, put_shift _ _ _ _ _ _ h2.symm (by rw [h2]; simp; omega) (by rw [List.length_drop, hC]; simp; omega) (by rw [hC]; simp; omega), ← HI.out] at hw5
    unfold OwnW
    rw [HIl.out]
    refine ownsRow_of hw5 (by rw [encE_length, HIl.out]) hroom (by unfold maxLen; exact hcm) ?_
    rw [List.length_drop, hC]
    simp only [List.length_cons, List.length_nil]
    omega
  · have hka : Kept (fun k => (Value.slice (some ⟨g, 0, none⟩) n cap).ownBlock = some k) w w3 := hk3.mono (fun _ _ h => h.elim)
    exact (hka.trans hk4 (fun j hj h => by simp [Value.ownBlock]; exact h.symm)).trans hk5 (fun j hj h => by simp [Value.ownBlock]; exact h.symm)

/-- slices.Insert of one entry. -/
theorem ins_atW (w : World) (v : Value) (l : List EntB) (i gv : Nat) (x : EntB) (ho : OwnW w v l) (hi : i ≤ l.length) (hgv : Blk w gv [(Value.int .i64 (x.1)), (Value.slice (x.2).a (x.2).n (x.2).c)] 85) (hne : v.ownBlock ≠ some gv) (hl : l.length ≤ 1000000) :
    Calls Try.prog 34 #[v, .int .i64 (i : Nat), .slice (some ⟨gv, 0, none⟩) 1 1] w (InsOkW w v (insK l i x)) := by
  by_cases he : i = l.length
  · subst he
    exact ins_endW w v l gv x ho hgv hl
  · rcases ownsRow_blk ho with ⟨_, h, _⟩ | ⟨g, cap, C, rfl, hb, hnc, hcm, hC⟩
    · omega
    · by_cases hr : l.length + 1 ≤ cap
      · exact ins_roomW w l i gv x g cap ho hr (by omega) hgv (fun h => hne (by rw [h]; rfl)) hl
      · obtain rfl : cap = l.length := by omega
        exact ins_growW w (.slice none 0 0) l i gv x g ho (by omega) hgv hl

end Go.Proofs.Ytclfklcboigifaa
