/-
  The iterators: slices.All, order.tell, (*Map).All.
-/
import Derived.Test.YtclfklcboigifaaGetW
import Derived.Test.YtclfklcboigifaaIterW
import Derived.Test.YtclfklcboigifaaSeq
namespace Go.Proofs.Ytclfklcboigifaa
open Go.RowKit Go.Shelf
set_option linter.unusedSimpArgs false
set_option linter.unusedVariables false
attribute [local go_sem] Oper.semAt_some

/-- The word of the loop of Keys. -/
def KeysIW (w : World) (Bk : Nat) (pre : List EntB) (F : Nat → Prop) (W : World) : Prop :=
  ∃ kv, Blk W Bk [kv] 38 ∧ W.ownsRow 0 3 1 kv pre.length (pre.map fun x => (Value.int .i64 (x.1))) ∧ F = footM Bk kv ∧ (∀ k, kv.ownBlock = some k → w.heap.size ≤ k) ∧ Kept (fun _ => False) w W
theorem KeysIW.foot (w : World) (Bk B : Nat) (hB : w.heap.size ≤ B) : FootOk B (KeysIW w Bk) := by
  refine ⟨?_, ?_⟩
  · rintro pre F _ A C row ⟨kv, hb, ho, rfl, hge, hk⟩ hg hr
    have hkg := Kept.of_grown hg
    have hn : ∀ k, IsCells A k → ¬ row = some k := fun k hc e => by
      obtain ⟨_, o, h1, h2⟩ := hr k e
      exact hc.not_loop h1 h2
    refine ⟨kv, hkg.blk hb (hn _ hb.isCells), ownsRow_kept ho hkg (fun k hk => hn k (ownsRow_cells ho hk)), rfl, hge, hk.trans hkg (fun i hi e => ?_)⟩
    have := (hr i e).1
    omega
  · rintro pre F A ⟨kv, hb, ho, rfl, hge, hk⟩ k (rfl | h) hB'
    · exact hb.isCells
    · exact ownsRow_cells ho h

set_option maxRecDepth 100000 in
set_option maxHeartbeats 4000000 in
theorem keys_coreW (w : World) (po : Option Addr) (l : List EntB) (X : Nat → Prop) (hX2 : ∀ k, X k → k < w.heap.size) (hl : l.length ≤ 1000000)
    (hs : ∀ W Bm, Kept (fun _ => False) w W → Blk W Bm [.pointer po] 64 → SeqAt Try.prog 51 #[.pointer (some ⟨Bm, 0, none⟩)] enc1W l X W) :
    Calls Try.prog 28 #[.pointer po] w fun e w' => ∃ kv, e = .returned kv ∧ w'.ownsRow 0 3 1 kv l.length (l.map fun x => (Value.int .i64 (x.1))) ∧ Kept (fun _ => False) w w' := by
  have HS := hide hs
  have HX2 := hide hX2
  clear hs hX2
  refine (callsIn_wide (n := 4)).1 (callsIn_of_wp_marks Try.func28 rfl trivial (wpIn_wide.2 ?_) rfl)
  simp only [Try.ntmps28, List.size_toArray, List.length_cons, List.length_nil, Nat.reduceAdd, Nat.reduceSub, Array.replicate_succ, Array.replicate_zero, List.push_toArray, List.append_toArray, List.nil_append, List.cons_append]
  obtain ⟨ik, hik, hzk, hsk, hbk⟩ := info_parts Try.info38
  have Hik := hide hik
  have Hzk := hide hzk
  clear hik hzk hsk hbk
  go_wp2_with (first
    | ((with_reducible refine aw_alloc (t := 38) Hik.out Hzk.out ?_); intro w1 hb1 hk1 hz1; have Hz1 := hide hz1; clear hz1)
    | (go_at_call 39; refine (all_atW w1 po).mono ?_; rintro e w2 ⟨rfl, hw2⟩; have HW2 := hide hw2; clear hw2))
  have hkw2 : Kept (fun _ => False) w1 w2 := by rw [HW2.out]; exact Kept.alloc _ _ _
  have hbm : Blk w2 w1.heap.size [.pointer po] 64 := by rw [HW2.out]; exact Blk.newA w1 _ _
  have hsz2 : w2.heap.size = w.heap.size + 2 := by rw [HW2.out]; simp [Hz1.out]
  have hk02 := hk1.trans hkw2 (fun _ _ h => h)
  have hbk : Blk w2 w.heap.size [.slice none 0 0] 38 := hkw2.blk hb1 (fun h => h)
  have Hsz2 := hide hsz2
  have hlt2 : w.heap.size < w2.heap.size := by omega
  clear hsz2 hb1
  obtain ⟨i0, hi0, hz0, hs0, hb0⟩ := info_parts Try.info3
  refine rangeF (gf := 51) (lb := #[.pointer (some ⟨w1.heap.size, 0, none⟩)]) rfl (enters_of Try.func51 (by kernel_rfl) rfl) (encs := enc1W) (xs := l) (X := X) (fun W hk => HS.out W _ (hk02.trans hk (fun _ _ h => h)) (hk.blk hbm (fun h => h))) (fun _ => rfl)
    (KeysIW w w.heap.size) (fun _ _ _ => False) (KeysIW.foot w w.heap.size _ (by omega)) (fun _ _ _ _ _ _ h _ _ => h) (footM w.heap.size (.slice none 0 0)) (fun k hk => by
      rcases hk with h | h
      · omega
      · simp [Value.ownBlock] at h) (fun k hk => ⟨by have := HX2.out k hk; omega, fun h => by
      rcases h with h | h
      · have := HX2.out k hk; omega
      · simp [Value.ownBlock] at h⟩)
    ⟨_, hbk, World.ownsRow_nil _ _ _ _, rfl, fun k h => by simp [Value.ownBlock] at h, hk02⟩
    (fun x a' W' => a' = { tmps := #[.pointer po, undef, .slice none 0 0, .pointer (some ⟨w.heap.size, 0, none⟩), (Value.int .i64 (x.1)), .pointer po, .func (.func 51) #[] #[.pointer (some ⟨w1.heap.size, 0, none⟩)], (Value.int .i64 (x.1)), (Value.slice (x.2).a (x.2).n (x.2).c), undef, undef, undef, undef, undef], defers := [] })
    (fun _ _ _ _ _ _ h _ _ => h) ?assign ?body ?done ?stop
  case assign =>
    intro lp n pre x F A K hI hK
    obtain ⟨k, v⟩ := x
    simp only [enc1W]
    have HKK := hide hK
    clear hK
    gi_wp2
    exact HKK.out _ A (Kept.refl _ _) rfl
  case body =>
    rintro lp n pre x post F a' A hxs ⟨kv, hb, ho, rfl, hge, hk⟩ rfl
    obtain ⟨k, v⟩ := x
    have hlen : pre.length < l.length := by rw [hxs]; simp
    have c0 : A.cell? ⟨w.heap.size, 0, none⟩ = some kv := hb.cell 0
    have HB := hide hb
    have HO := hide ho
    have Hxs := hide hxs
    have Hge := hide hge
    clear hb ho hxs hge
    gi_wp2_with (with_reducible refine stopi_bs 38 ?_)
    refine hide ?_
    refine wpListIn_run rfl rfl (fun _ => by simp) (run_bs1 Try.underlying38 hi0 hz0 hs0 [(Value.int .i64 (k))] rfl (by simp) (by simp [Value.cells]) rfl) ?_
    have hbA := Blk.new A [(Value.int .i64 (k))] 3
    have hkA : Kept (fun _ => False) A (A.alloc (.cells [(Value.int .i64 (k))].toArray 3)) := Kept.alloc _ _ _
    have hszA : (A.alloc (.cells [(Value.int .i64 (k))].toArray 3)).heap.size = A.heap.size + 1 := by simp
    generalize A.alloc (.cells [(Value.int .i64 (k))].toArray 3) = A1 at hbA hkA hszA
    have hoA := ownsRow_kept HO.out hkA (fun _ _ h => h)
    obtain ⟨kv', A2, hr, h2, h3, _, h5⟩ := run_append_own_at (P := Try.prog) A1 0 38 38 3 i0 _ 1 _ Try.underlying38 hi0 hz0 hs0 hb0 rfl (by decide) kv pre.length _ hoA ⟨A.heap.size, 0, none⟩ 1 1 [(Value.int .i64 (k))] rfl (fun j u hj => by rw [addr_add, hbA.cell, Nat.zero_add]; exact hj) (by simp [Value.oneCell']) (by unfold maxLen; omega) (by omega) (Nat.zero_le _)
    have hkA2 := Kept.of_grown h3
    have hne : kv.ownBlock ≠ some w.heap.size := ownsRow_blk_ne HO.out HB.out (by decide)
    have hb2 : Blk A2 w.heap.size [kv] 38 := hkA2.blk (hkA.blk HB.out (fun h => h)) hne
    have c2 : A2.cell? ⟨w.heap.size, 0, none⟩ = some kv := hb2.cell 0
    have f2 : A2.frozen? ⟨w.heap.size, 0, none⟩ = false := hb2.frozen 0
    try simp only [put_lit, List.set_cons_succ, List.set_cons_zero]
    refine wpListIn_run rfl rfl (fun _ => by simp) (r_app rfl rfl hr) ?_
    obtain ⟨ao, n3, cp3, rfl⟩ := ownsRow_slice3 h2
    have HO2 := hide h2
    have HB2 := hide hb2
    have H5 := hide h5
    have Hsz := hide hszA
    clear hr h2 h3 h5 hbA hoA hszA c0 hb2
    try simp only [put_lit, List.set_cons_succ, List.set_cons_zero]
    gi_wp2
    have hks := Kept.setCell (S := fun j => j = w.heap.size) A2 ⟨w.heap.size, 0, none⟩ (.slice ao n3 cp3) rfl
    have hkAA : Kept (footM w.heap.size kv) A (A2.setCell ⟨w.heap.size, 0, none⟩ (.slice ao n3 cp3)) := ((hkA.mono (T := footM w.heap.size kv) (fun _ _ h => h.elim)).trans hkA2 (fun _ _ h => .inr h)).trans hks (fun _ _ h => .inl h)
    refine ⟨footM w.heap.size (.slice ao n3 cp3), ⟨_, HB2.out.setCell 0 _, ?_, rfl, ?_, ?_⟩, hkAA, ?_⟩
    · have := ownsRow_kept HO2.out hks (fun j hj e => by
        rcases H5.out with h | h
        · rw [h] at hj; exact hne (by rw [hj, e])
        · rw [h] at hj; cases hj; have := HB.out.lt; have := Hsz.out; omega)
      simpa using this
    · intro j hj
      rcases H5.out with h | h
      · rw [h] at hj; exact Hge.out j hj
      · rw [h] at hj; cases hj; have := hk.size; have := Hsz.out; omega
    · refine hk.trans hkAA (fun j hj h => ?_)
      rcases h with h | h
      · omega
      · have := Hge.out j h; omega
    · rintro j (h | h)
      · exact .inl (.inl h)
      · rcases H5.out with h' | h'
        · rw [h'] at h; exact .inl (.inr h)
        · rw [h'] at h; cases h; have := Hsz.out; exact .inr (by omega)
  case done =>
    rintro D F A hD hI hK
    have hI2 := ownU_put ((KeysIW.foot w w.heap.size w2.heap.size (by omega)).own _ _) (.deferred none) hI (by omega) hK rfl
    obtain ⟨kv, hb, ho, rfl, hge, hk⟩ := hI
    have c0 : A.cell? ⟨w.heap.size, 0, none⟩ = some kv := hb.cell 0
    obtain ⟨kv2, hb2, ho2, _, hge2, hk2⟩ := hI2
    have hbD : Blk (A.putObj D (.deferred none)) w.heap.size [kv] 38 := (Kept.putObj _ _ _).blk hb (fun e => by
      unfold Blk at hb
      rw [e, hK] at hb
      cases hb)
    obtain rfl : kv2 = kv := by have := (hb2.same hbD).1; simpa using this
    have HO2 := hide ho2
    have HK2 := hide hk2
    clear hb ho hge hk hb2 ho2 hge2 hk2 hbD
    go_wp2
    refine ⟨by simp, .inl ⟨_, _, rfl, run_takeDeferred hK, ?_⟩⟩
    exact ⟨_, results_tmp rfl _ _ _, kv2, rfl, HO2.out, HK2.out⟩
  case stop =>
    rintro D pre F A hD hpre hJA hK
    exact hJA.elim

theorem keys_atW (w : World) (p : Nat) (v : Value) (l : List EntB) (h : MapW w p v l) (hl : l.length ≤ 1000000) :
    Calls Try.prog 28 #[.pointer (some ⟨p, 0, none⟩)] w fun e w' => ∃ kv, e = .returned kv ∧ w'.ownsRow 0 3 1 kv l.length (l.map fun x => (Value.int .i64 (x.1))) ∧ Kept (fun _ => False) w w' :=
  keys_coreW w _ l (footM p v) (by
    rintro k (h' | h')
    · rw [h']; exact h.blk.lt
    · exact ownsRow_lt h.own k h') hl (fun W Bm hk hb => all1_atW W Bm p v l hb (h.kept hk (fun h => h) (fun _ _ h => h)) hl)
theorem keys_nilW (w : World) : Calls Try.prog 28 #[.pointer none] w fun e w' => ∃ kv, e = .returned kv ∧ w'.ownsRow 0 3 1 kv 0 [] ∧ Kept (fun _ => False) w w' :=
  keys_coreW w _ [] (fun _ => False) (fun _ h => h.elim) (by simp) (fun W Bm hk hb => all1_nilW W Bm hb)

end Go.Proofs.Ytclfklcboigifaa
