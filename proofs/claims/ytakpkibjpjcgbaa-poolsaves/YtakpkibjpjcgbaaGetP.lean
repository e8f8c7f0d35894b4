/-
  Get of an order of blocks.
-/
import Derived.Test.YtakpkibjpjcgbaaIterP
namespace Go.Proofs.Ytakpkibjpjcgbaa
open Go.RowKit Go.Shelf
set_option linter.unusedSimpArgs false
set_option linter.unusedVariables false
set_option maxRecDepth 100000

theorem run_loadVarP {P : Program} {t : TypeId} {n b : Nat} {L : List Value} {e : TypeId} {w : World} (ht : aggSize P t n) (hb : Blk w b L e) (hl : L.length = n) :
    (loadVar t ⟨b, 0, none⟩).run P w = .ok (.agg L.toArray) w := by
  have hc := run_loadCells_list (P := P) w ⟨b, 0, none⟩ L (fun j v hj => by rw [addr_add, hb.cell, Nat.zero_add]; exact hj)
  rw [hl] at hc
  simp [loadVar, run_isAgg ht, run_sizeOf ht, hc]
theorem results_cell2P {P : Program} {fn : Func} {t u : Tmp} {ty : TypeId} {n b : Nat} {L : List Value} {e : TypeId} {tmps : Array Value} {w : World} (h : fn.results = #[.cell t ty, .tmp u]) (ht : aggSize P ty n) (hx : tmps.getD t undef = .pointer (some ⟨b, 0, none⟩)) (hb : Blk w b L e) (hl : L.length = n) :
    (results fn tmps).run P w = .ok (.tuple #[.agg L.toArray, tmps.getD u undef]) w := by
  have hv := run_loadVarP (P := P) ht hb hl
  simp only [Array.getD_eq_getD_getElem?] at hx
  simp [results, h, hx, hv, asAddr]
/-- The value of a key that is there. -/
def getP (l : List EntP) (k : Int) : Option Bk := if hasK ltI l k then (l[posK ltI l k]?).map (·.2) else none
theorem getP_some {l : List EntP} {k : Int} (h : hasK ltI l k = true) : getP l k = some (l[posK ltI l k]'(hasK_lt h)).2 := by
  unfold getP
  rw [if_pos h, List.getElem?_eq_getElem (hasK_lt h)]
  rfl
theorem zc79 : (Value.agg (List.replicate 64 (.int .u8 0)).toArray).cells.toList.length = 64 := rfl
set_option maxHeartbeats 2000000 in
theorem get_someP (w : World) (p : Nat) (v : Value) (l : List EntP) (k : Int) (x : Bk) (h : MapP w p v l) (hl : l.length ≤ 1000000) (hg : getP l k = some x) :
    Calls Try.prog 29 #[.pointer (some ⟨p, 0, none⟩), .int .i64 k] w fun e w' => e = .returned (.tuple #[.agg (BV x.B).toArray, .bool true]) ∧ Kept (fun _ => False) w w' := by
  have H1 := hide (fun (w' : World) (hk : Kept (fun _ => False) w w') => find_atP w' p v l k (h.kept hk (fun h => h) (fun _ _ h => h)) hl)
  have hh : hasK ltI l k = true := by
    cases hh : hasK ltI l k with
    | true => rfl
    | false => unfold getP at hg; rw [if_neg (by rw [hh]; decide)] at hg; cases hg
  have hlt := hasK_lt hh
  have hx : l[posK ltI l k].2 = x := by rw [getP_some hh] at hg; exact Option.some.inj hg
  rw [hh] at H1
  have HM := hide h
  rcases ownsRow_blk h.own with ⟨_, h0, _⟩ | ⟨g, cap, C, rfl, hb, hnc, hcm, hC⟩
  · omega
  have hv := own_valP (C := C) (posK ltI l k) hlt
  rw [hx] at hv
  have HV := hide hv.1
  have HVl := hide hv.2
  have HB := hide hb
  have hxl := BVk_length x
  have hx1 := BV_one x.B
  obtain ⟨i0, hi0, hz0, hs0, hb0⟩ := info_parts Try.info79
  have Hi0 := hide hi0
  have Hz0 := hide hz0
  clear h hh hg hx hv hb hC hi0 hz0 hs0 hb0
  generalize posK ltI l k = a at *
  obtain ⟨M, hM⟩ : ∃ M, M = BV x.B := ⟨_, rfl⟩
  rw [← hM] at hxl hx1 HV ⊢
  have HX := hide hxl
  have HX1 := hide hx1
  clear hM hxl hx1
  go_enter Try.func29, Try.ntmps29
  go_wp2_with (first
    | ((with_reducible refine aw_alloc (t := 79) Hi0.out Hz0.out ?_); intro w1 hb1 hk1 hz1; have HB1 := hide hb1; have HK1 := hide hk1; clear hb1 hk1 hz1)
    | fail)
  go_wp2_with fail
  refine (H1.out _ HK1.out).mono ?_
  rintro e w2 ⟨rfl, hk⟩
  have HK2 := hide (HK1.out.trans hk (fun _ _ h => h))
  have c0 : w2.cell? ⟨p, 0, none⟩ = some (.slice (some ⟨g, 0, none⟩) l.length cap) := (HM.out.kept HK2.out (fun h => h) (fun _ _ h => h)).blk.cell 0
  have HB2 := hide (HK2.out.blk HB.out (fun h => h))
  have HX2 := hide (hk.blk HB1.out (fun h => h))
  clear hk
  unfold maxLen at hcm
  simp only [put_lit, List.set_cons_succ, List.set_cons_zero]
  go_wp2_with (first
    | (with_reducible refine aw_load (M := M) Try.agg79 rfl HB2.out HVl.out HV.out ?_)
    | ((with_reducible refine aw_store (M := M) Try.agg79 rfl rfl HX.out HX1.out HX2.out (by rw [zc79]; omega) ?_); intro w3 hw3 hk3 hz3; have HW3 := hide hw3; rw [put_whole _ _ (by rw [zc79, HX.out])] at HW3; have HK3 := hide hk3; clear hw3 hk3 hz3))
  refine bodyPost_ret (results_cell2P (t := 4) (u := 5) (ty := 79) rfl Try.agg79 rfl HW3.out HX.out) rfl ⟨rfl, ?_⟩
  exact HK2.out.trans HK3.out (fun j hj h => by omega)
set_option maxHeartbeats 2000000 in
theorem get_noneP (w : World) (p : Nat) (v : Value) (l : List EntP) (k : Int) (h : MapP w p v l) (hl : l.length ≤ 1000000) (hg : getP l k = none) :
    Calls Try.prog 29 #[.pointer (some ⟨p, 0, none⟩), .int .i64 k] w fun e w' => e = .returned (.tuple #[.agg (List.replicate 64 (.int .u8 0)).toArray, .bool false]) ∧ Kept (fun _ => False) w w' := by
  have H1 := hide (fun (w' : World) (hk : Kept (fun _ => False) w w') => find_atP w' p v l k (h.kept hk (fun h => h) (fun _ _ h => h)) hl)
  have hh : hasK ltI l k = false := by
    cases hh : hasK ltI l k with
    | false => rfl
    | true => rw [getP_some hh] at hg; cases hg
  rw [hh] at H1
  obtain ⟨i0, hi0, hz0, hs0, hb0⟩ := info_parts Try.info79
  have Hi0 := hide hi0
  have Hz0 := hide hz0
  clear h hh hg hi0 hz0 hs0 hb0
  generalize posK ltI l k = a at *
  obtain ⟨M, hM⟩ : ∃ M, M = List.replicate 64 (Value.int .u8 0) := ⟨_, rfl⟩
  rw [← hM] at Hz0 ⊢
  have HX : Hid (M.length = 64) := hide (by rw [hM]; rfl)
  have HX1 : Hid (∀ u ∈ M, u.oneCell' = true) := hide (by rw [hM]; intro u hu; rw [List.eq_of_mem_replicate hu]; rfl)
  have HMc : Hid ((Value.agg M.toArray).cells.toList = M) := hide rfl
  clear hM
  go_enter Try.func29, Try.ntmps29
  go_wp2_with (first
    | ((with_reducible refine aw_alloc (t := 79) Hi0.out Hz0.out ?_); intro w1 hb1 hk1 hz1; have HB1 := hide hb1; have HK1 := hide hk1; clear hb1 hk1 hz1)
    | fail)
  go_wp2_with fail
  refine (H1.out _ HK1.out).mono ?_
  rintro e w2 ⟨rfl, hk⟩
  have HK2 := hide (HK1.out.trans hk (fun _ _ h => h))
  have HX2 := hide (hk.blk HB1.out (fun h => h))
  clear hk
  rw [HMc.out] at HX2
  simp only [put_lit, List.set_cons_succ, List.set_cons_zero]
  go_wp2_with (first
    | ((with_reducible refine aw_alloc (t := 79) Hi0.out Hz0.out ?_); intro w3 hb3 hk3 hz3; have HB3 := hide hb3; rw [HMc.out] at HB3; have HX3 := hide (hk3.blk HX2.out (fun h => h)); have HK3 := hide (HK2.out.trans hk3 (fun _ _ h => h)); clear hb3 hk3 hz3)
    | (with_reducible refine aw_load (M := M) Try.agg79 rfl HB3.out (by rw [HX.out]; omega) (List.take_of_length_le (by rw [List.drop_zero, HX.out]; omega)) ?_)
    | ((with_reducible refine aw_store (M := M) Try.agg79 rfl rfl HX.out HX1.out HX3.out (by rw [HX.out]; omega) ?_); intro w4 hw4 hk4 hz4; have HW4 := hide hw4; rw [put_whole _ _ rfl] at HW4; have HK4 := hide hk4; clear hw4 hk4 hz4))
  refine bodyPost_ret (results_cell2P (t := 4) (u := 5) (ty := 79) rfl Try.agg79 rfl HW4.out HX.out) rfl ⟨rfl, ?_⟩
  exact HK3.out.trans HK4.out (fun j hj h => by omega)
end Go.Proofs.Ytakpkibjpjcgbaa

/-
  Keys of an order of blocks.
-/
namespace Go.Proofs.Ytakpkibjpjcgbaa
open Go.RowKit Go.Shelf
set_option linter.unusedSimpArgs false
set_option linter.unusedVariables false
set_option maxRecDepth 100000
attribute [local go_sem] Oper.semAt_some

/-- The word of the loop of Keys. -/
def KeysII (w : World) (Bk : Nat) (pre : List EntP) (F : Nat → Prop) (W : World) : Prop :=
  ∃ kv, Blk W Bk [kv] 49 ∧ W.ownsRow 0 3 1 kv pre.length (pre.map fun x => (Value.int .i64 (x.1))) ∧ F = footM Bk kv ∧ (∀ k, kv.ownBlock = some k → w.heap.size ≤ k) ∧ Kept (fun _ => False) w W
theorem KeysII.foot (w : World) (Bk B : Nat) (hB : w.heap.size ≤ B) : FootOk B (KeysII w Bk) := by
  refine ⟨?_, ?_⟩
  · rintro pre F _ A C row ⟨kv, hb, ho, rfl, hge, hk⟩ hg hr
    have hkg := Kept.of_grown hg
    have hn : ∀ k, IsCells A k → ¬ row = some k := fun k hc e => by
      obtain ⟨_, o, h1, h2⟩ := hr k e
      exact hc.not_loop h1 h2
    refine ⟨kv, hkg.blk hb (hn _ hb.isCells), ownsRow_kept ho hkg (fun k hk => hn k (ownsRow_cells ho hk)), rfl, hge, hk.trans hkg (fun i hi e => ?_)⟩
    have := (hr i e).1
    omega
  · rintro pre F A ⟨kv, hb, ho, rfl, hge, hk⟩ k (rfl | h) hB'
    · exact hb.isCells
    · exact ownsRow_cells ho h

set_option maxRecDepth 100000 in
set_option maxHeartbeats 4000000 in
theorem keys_coreP (w : World) (po : Option Addr) (l : List EntP) (X : Nat → Prop) (hX2 : ∀ k, X k → k < w.heap.size) (hl : l.length ≤ 1000000)
    (hs : ∀ W Bm, Kept (fun _ => False) w W → Blk W Bm [.pointer po] 74 → SeqAt Try.prog 55 #[.pointer (some ⟨Bm, 0, none⟩)] enc1P l X W) :
    Calls Try.prog 38 #[.pointer po] w fun e w' => ∃ kv, e = .returned kv ∧ w'.ownsRow 0 3 1 kv l.length (l.map fun x => (Value.int .i64 (x.1))) ∧ Kept (fun _ => False) w w' := by
  have HS := hide hs
  have HX2 := hide hX2
  clear hs hX2
  refine (callsIn_wide (n := 4)).1 (callsIn_of_wp_marks Try.func38 rfl trivial (wpIn_wide.2 ?_) rfl)
  simp only [Try.ntmps38, List.size_toArray, List.length_cons, List.length_nil, Nat.reduceAdd, Nat.reduceSub, Array.replicate_succ, Array.replicate_zero, List.push_toArray, List.append_toArray, List.nil_append, List.cons_append]
  obtain ⟨ik, hik, hzk, hsk, hbk⟩ := info_parts Try.info49
  have Hik := hide hik
  have Hzk := hide hzk
  clear hik hzk hsk hbk
  go_wp2_with (first
    | ((with_reducible refine aw_alloc (t := 49) Hik.out Hzk.out ?_); intro w1 hb1 hk1 hz1; have Hz1 := hide hz1; clear hz1)
    | (go_at_call 35; refine (all_atP w1 po).mono ?_; rintro e w2 ⟨rfl, hw2⟩; have HW2 := hide hw2; clear hw2))
  have hkw2 : Kept (fun _ => False) w1 w2 := by rw [HW2.out]; exact Kept.alloc _ _ _
  have hbm : Blk w2 w1.heap.size [.pointer po] 74 := by rw [HW2.out]; exact Blk.newA w1 _ _
  have hsz2 : w2.heap.size = w.heap.size + 2 := by rw [HW2.out]; simp [Hz1.out]
  have hk02 := hk1.trans hkw2 (fun _ _ h => h)
  have hbk : Blk w2 w.heap.size [.slice none 0 0] 49 := hkw2.blk hb1 (fun h => h)
  have Hsz2 := hide hsz2
  have hlt2 : w.heap.size < w2.heap.size := by omega
  clear hsz2 hb1
  obtain ⟨i0, hi0, hz0, hs0, hb0⟩ := info_parts Try.info3
  refine rangeF (gf := 55) (lb := #[.pointer (some ⟨w1.heap.size, 0, none⟩)]) rfl (enters_of Try.func55 (by kernel_rfl) rfl) (encs := enc1P) (xs := l) (X := X) (fun W hk => HS.out W _ (hk02.trans hk (fun _ _ h => h)) (hk.blk hbm (fun h => h))) (fun _ => rfl)
    (KeysII w w.heap.size) (fun _ _ _ => False) (KeysII.foot w w.heap.size _ (by omega)) (fun _ _ _ _ _ _ h _ _ => h) (footM w.heap.size (.slice none 0 0)) (fun k hk => by
      rcases hk with h | h
      · omega
      · simp [Value.ownBlock] at h) (fun k hk => ⟨by have := HX2.out k hk; omega, fun h => by
      rcases h with h | h
      · have := HX2.out k hk; omega
      · simp [Value.ownBlock] at h⟩)
    ⟨_, hbk, World.ownsRow_nil _ _ _ _, rfl, fun k h => by simp [Value.ownBlock] at h, hk02⟩
    (fun x a' W' => a' = { tmps := #[.pointer po, undef, .slice none 0 0, .pointer (some ⟨w.heap.size, 0, none⟩), (Value.int .i64 (x.1)), .pointer po, .func (.func 55) #[] #[.pointer (some ⟨w1.heap.size, 0, none⟩)], (Value.int .i64 (x.1)), .agg (BV x.2.B).toArray, undef, undef, undef, undef, undef], defers := [] })
    (fun _ _ _ _ _ _ h _ _ => h) ?assign ?body ?done ?stop
  case assign =>
    intro lp n pre x F A K hI hK
    obtain ⟨k, v⟩ := x
    simp only [enc1P]
    have HKK := hide hK
    clear hK
    gi_wp2
    exact HKK.out _ A (Kept.refl _ _) rfl
  case body =>
    rintro lp n pre x post F a' A hxs ⟨kv, hb, ho, rfl, hge, hk⟩ rfl
    obtain ⟨k, v⟩ := x
    have hlen : pre.length < l.length := by rw [hxs]; simp
    have c0 : A.cell? ⟨w.heap.size, 0, none⟩ = some kv := hb.cell 0
    have HB := hide hb
    have HO := hide ho
    have Hxs := hide hxs
    have Hge := hide hge
    clear hb ho hxs hge
    gi_wp2_with (with_reducible refine stopi_bs 49 ?_)
    refine hide ?_
    refine wpListIn_run rfl rfl (fun _ => by simp) (run_bs1 Try.underlying49 hi0 hz0 hs0 [(Value.int .i64 (k))] rfl (by simp) (by simp [Value.cells]) rfl) ?_
    have hbA := Blk.new A [(Value.int .i64 (k))] 3
    have hkA : Kept (fun _ => False) A (A.alloc (.cells [(Value.int .i64 (k))].toArray 3)) := Kept.alloc _ _ _
    have hszA : (A.alloc (.cells [(Value.int .i64 (k))].toArray 3)).heap.size = A.heap.size + 1 := by simp
    generalize A.alloc (.cells [(Value.int .i64 (k))].toArray 3) = A1 at hbA hkA hszA
    have hoA := ownsRow_kept HO.out hkA (fun _ _ h => h)
    obtain ⟨kv', A2, hr, h2, h3, _, h5⟩ := run_append_own_at (P := Try.prog) A1 0 49 49 3 i0 _ 1 _ Try.underlying49 hi0 hz0 hs0 hb0 rfl (by decide) kv pre.length _ hoA ⟨A.heap.size, 0, none⟩ 1 1 [(Value.int .i64 (k))] rfl (fun j u hj => by rw [addr_add, hbA.cell, Nat.zero_add]; exact hj) (by simp [Value.oneCell']) (by unfold maxLen; omega) (by omega) (Nat.zero_le _)
    have hkA2 := Kept.of_grown h3
    have hne : kv.ownBlock ≠ some w.heap.size := ownsRow_blk_ne HO.out HB.out (by decide)
    have hb2 : Blk A2 w.heap.size [kv] 49 := hkA2.blk (hkA.blk HB.out (fun h => h)) hne
    have c2 : A2.cell? ⟨w.heap.size, 0, none⟩ = some kv := hb2.cell 0
    have f2 : A2.frozen? ⟨w.heap.size, 0, none⟩ = false := hb2.frozen 0
    try simp only [put_lit, List.set_cons_succ, List.set_cons_zero]
    refine wpListIn_run rfl rfl (fun _ => by simp) (r_app rfl rfl hr) ?_
    obtain ⟨ao, n3, cp3, rfl⟩ := ownsRow_slice3 h2
    have HO2 := hide h2
    have HB2 := hide hb2
    have H5 := hide h5
    have Hsz := hide hszA
    clear hr h2 h3 h5 hbA hoA hszA c0 hb2
    try simp only [put_lit, List.set_cons_succ, List.set_cons_zero]
    gi_wp2
    have hks := Kept.setCell (S := fun j => j = w.heap.size) A2 ⟨w.heap.size, 0, none⟩ (.slice ao n3 cp3) rfl
    have hkAA : Kept (footM w.heap.size kv) A (A2.setCell ⟨w.heap.size, 0, none⟩ (.slice ao n3 cp3)) := ((hkA.mono (T := footM w.heap.size kv) (fun _ _ h => h.elim)).trans hkA2 (fun _ _ h => .inr h)).trans hks (fun _ _ h => .inl h)
    refine ⟨footM w.heap.size (.slice ao n3 cp3), ⟨_, HB2.out.setCell 0 _, ?_, rfl, ?_, ?_⟩, hkAA, ?_⟩
    · have := ownsRow_kept HO2.out hks (fun j hj e => by
        rcases H5.out with h | h
        · rw [h] at hj; exact hne (by rw [hj, e])
        · rw [h] at hj; cases hj; have := HB.out.lt; have := Hsz.out; omega)
      simpa using this
    · intro j hj
      rcases H5.out with h | h
      · rw [h] at hj; exact Hge.out j hj
      · rw [h] at hj; cases hj; have := hk.size; have := Hsz.out; omega
    · refine hk.trans hkAA (fun j hj h => ?_)
      rcases h with h | h
      · omega
      · have := Hge.out j h; omega
    · rintro j (h | h)
      · exact .inl (.inl h)
      · rcases H5.out with h' | h'
        · rw [h'] at h; exact .inl (.inr h)
        · rw [h'] at h; cases h; have := Hsz.out; exact .inr (by omega)
  case done =>
    rintro D F A hD hI hK
    have hI2 := ownU_put ((KeysII.foot w w.heap.size w2.heap.size (by omega)).own _ _) (.deferred none) hI (by omega) hK rfl
    obtain ⟨kv, hb, ho, rfl, hge, hk⟩ := hI
    have c0 : A.cell? ⟨w.heap.size, 0, none⟩ = some kv := hb.cell 0
    obtain ⟨kv2, hb2, ho2, _, hge2, hk2⟩ := hI2
    have hbD : Blk (A.putObj D (.deferred none)) w.heap.size [kv] 49 := (Kept.putObj _ _ _).blk hb (fun e => by
      unfold Blk at hb
      rw [e, hK] at hb
      cases hb)
    obtain rfl : kv2 = kv := by have := (hb2.same hbD).1; simpa using this
    have HO2 := hide ho2
    have HK2 := hide hk2
    clear hb ho hge hk hb2 ho2 hge2 hk2 hbD
    go_wp2
    refine ⟨by simp, .inl ⟨_, _, rfl, run_takeDeferred hK, ?_⟩⟩
    exact ⟨_, results_tmp rfl _ _ _, kv2, rfl, HO2.out, HK2.out⟩
  case stop =>
    rintro D pre F A hD hpre hJA hK
    exact hJA.elim

theorem keys_atP (w : World) (p : Nat) (v : Value) (l : List EntP) (h : MapP w p v l) (hl : l.length ≤ 1000000) :
    Calls Try.prog 38 #[.pointer (some ⟨p, 0, none⟩)] w fun e w' => ∃ kv, e = .returned kv ∧ w'.ownsRow 0 3 1 kv l.length (l.map fun x => (Value.int .i64 (x.1))) ∧ Kept (fun _ => False) w w' :=
  keys_coreP w _ l (footM p v) (by
    rintro k (h' | h')
    · rw [h']; exact h.blk.lt
    · exact ownsRow_lt h.own k h') hl (fun W Bm hk hb => all1_atP W Bm p v l hb (h.kept hk (fun h => h) (fun _ _ h => h)) hl)
theorem keys_nilP (w : World) : Calls Try.prog 38 #[.pointer none] w fun e w' => ∃ kv, e = .returned kv ∧ w'.ownsRow 0 3 1 kv 0 [] ∧ Kept (fun _ => False) w w' :=
  keys_coreP w _ [] (fun _ => False) (fun _ h => h.elim) (by simp) (fun W Bm hk hb => all1_nilP W Bm hb)

end Go.Proofs.Ytakpkibjpjcgbaa
