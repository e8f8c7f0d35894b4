/-
  End of the document's books.
-/
import Derived.Test.YtclfklcboigifaaTxRg
namespace Go.Proofs.Ytclfklcboigifaa
open Go.RowKit Go.Shelf
set_option linter.unusedSimpArgs false
set_option linter.unusedVariables false
set_option maxRecDepth 100000

theorem SrcEB.take {w : World} {ao : Option Addr} {n c : Nat} {l : List EntB} (h : SrcEB w (.slice ao n c) l) (i : Nat) (hi : i ≤ l.length) : SrcEB w (.slice ao i c) (l.take i) := by
  obtain ⟨ao', cap, e, h2, h3⟩ := h
  cases e
  have hl : (l.take i).length = i := by rw [List.length_take]; omega
  refine ⟨ao, c, by rw [hl], by omega, fun h0 => ?_⟩
  obtain ⟨g, off, e, hc⟩ := h3 (by omega)
  refine ⟨g, off, e, fun j u hj => hc j u ?_⟩
  rw [encE_take] at hj
  rw [List.getElem?_take] at hj
  split at hj
  · exact hj
  · cases hj
theorem SrcEB.drop {w : World} {g off n c so : Nat} {l : List EntB} (h : SrcEB w (.slice (some ⟨g, off, none⟩) n c) l) (i : Nat) (hi : i ≤ l.length) (hso : so = if c = i then off else off + i * 2) : SrcEB w (.slice (some ⟨g, so, none⟩) (n - i) (c - i)) (l.drop i) := by
  obtain ⟨ao', cap, e, h2, h3⟩ := h
  cases e
  refine ⟨_, c - i, by rw [List.length_drop], by rw [List.length_drop]; omega, fun h0 => ?_⟩
  rw [List.length_drop] at h0
  obtain ⟨g', off', e, hc⟩ := h3 (by omega)
  cases e
  have hne : ¬ c = i := by omega
  rw [if_neg hne] at hso
  subst hso
  refine ⟨g, _, rfl, fun j u hj => ?_⟩
  rw [encE_drop, List.getElem?_drop] at hj
  have := hc _ _ hj
  rw [← Nat.add_assoc] at this
  exact this
theorem run_slice_hiT {P : Program} {ρ : Operand → Value} {w : World} {dst : Option Tmp} {t ty elem : TypeId} {x hi : Operand} {pos : String} {aft : Array Edge} {gd : Option (Nat × Bool)} {i : TypeInfo} {b off len cap : Nat} {k : IntKind}
    (ht : P.underlying t = some (.slice elem)) (hi' : P.info? elem = some i) (hx : ρ x = .slice (some ⟨b, off, none⟩) len cap) (h : Nat) (hh : ρ hi = .int k h) (hl : h ≤ cap) (h0 : 0 < cap) :
    (execOp ρ ⟨dst, .slice t x none (some hi) none, ty, pos, aft, gd⟩).run P w = .ok (.value (.slice (some ⟨b, off, none⟩) h cap)) w := by
  have h2 : (0 : Int) ≤ (h : Int) ∧ (h : Int) ≤ (cap : Int) := by omega
  have h3 : ¬ cap = 0 := by omega
  simp [execOp, Instr.sliceAt, run_underlying ht, Instr.slice, hx, hh, Instr.sliceBounds, Instr.sliceBound, asIntOf, h2, hl, sizeOf, typeInfo, hi', h3, addr_add]
theorem rend_no (w : World) (n la : Int) (v : Value) (l : List EntB) (h : SrcEB w v l) (hs : Sorted ltI l) (hl : l.length ≤ 1000) (t : Int) (hh : hasK ltI l t = false) :
    Calls Try.prog 20 #[.agg #[.int .i64 n, .int .i64 la, v], .int .i64 t] w fun e w' => e = .returned (.tuple #[.agg #[.int .i64 n, .int .i64 la, v], .int .i64 40]) ∧ Kept (fun _ => False) w w' := by
  have HA : Hid (∀ w', Kept (fun _ => False) w w' → Calls Try.prog 29 #[.agg #[.int .i64 n, .int .i64 la, v], .int .i64 t] w' fun e w'' => e = .returned (.int .i64 (-1)) ∧ Kept (fun _ => False) w' w'') := hide (fun w' hk => rat_at w' n la v l (h.kept hk) hs hl t (-1) (by unfold atK; rw [hh]; rfl))
  obtain ⟨ao, cap, rfl⟩ := h.sl
  clear h hs hh
  obtain ⟨i0, hi0, hz0, hs0, hb0⟩ := info_parts Try.info30
  have Hi0 := hide hi0
  have Hz0 := hide hz0
  obtain ⟨iX, hiX, hzX, hsX, hbX⟩ := info_parts Try.info57
  have HiX := hide hiX
  have HzX := hide hzX
  have HsX := hide hsX
  obtain ⟨iS, hiS, hzS, hsS, hbS⟩ := info_parts Try.info28
  have HiS := hide hiS
  have HsS := hide hsS
  clear hi0 hz0 hs0 hb0 hiX hzX hsX hbX hiS hzS hsS hbS
  generalize l.length = len at *
  go_enter Try.func20, Try.ntmps20
  go_wp2_with (first
    | ((with_reducible refine aw_box (t := 30) (v := .agg #[.int .i64 n, .int .i64 la, .slice ao len cap]) rfl ?_); intro w1 hb1 hk1 hz1; have HK1 := hide hk1; have HB1 := hide hb1; have Hz1 := hide hz1; clear hk1 hz1 hb1)
    | ((with_reducible refine aw_alloc (t := 30) (dst := some 4) Hi0.out Hz0.out ?_); intro w2 hw2 hk2 hz2; have HK2 := hide (HK1.out.trans hk2 (fun _ _ h => h)); have HB2 := hide (hk2.blk HB1.out (fun h => h)); have HW2 : Hid (Blk w2 w1.heap.size [.int .i64 0, .int .i64 0, .slice none 0 0] 30) := hide hw2; have Hz2 := hide hz2; clear hz2 hw2 hk2)
    | ((with_reducible refine aw_load (M := [.int .i64 n, .int .i64 la, .slice ao len cap]) Try.agg30 rfl HB2.out (by simp [Value.cells]) rfl ?_))
    | (go_at_call 29; refine (HA.out w2 HK2.out).mono ?_; rintro e w3 ⟨rfl, hk3⟩; have HK3 := hide (HK2.out.trans hk3 (fun _ _ h => h)); have HB3 := hide (hk3.blk HB2.out (fun h => h)); have HW3 := hide (hk3.blk HW2.out (fun h => h)); have c0 : w3.cell? ⟨w.heap.size, 0, none⟩ = some (.int .i64 n) := HB3.out.cell 0; have c2 : w3.cell? ⟨w.heap.size, 2, none⟩ = some (.slice ao len cap) := HB3.out.cell 2; clear hk3)
    | ((with_reducible refine aw_load (M := [.int .i64 n, .int .i64 la, .slice ao len cap]) Try.agg30 rfl HB3.out (by simp [Value.cells]) rfl ?_))
    | ((with_reducible refine aw_store (M := [.int .i64 n, .int .i64 la, .slice ao len cap]) Try.agg30 rfl rfl rfl (by simp [Value.oneCell']) HW3.out (by simp [Value.cells]) ?_); intro w4 hw4 hk4 hz4; rw [put_whole _ _ (by simp [Value.cells])] at hw4; have HW4 := hide hw4; have HK4 := hide (HK3.out.trans hk4 (S := fun _ => False) (fun i hi h => by have := Hz1.out; omega)); clear hz4 hw4 hk4))
  refine bodyPost_ret (results_cb rfl Try.agg30 rfl HW4.out rfl rfl) rfl ?_
  exact ⟨rfl, HK4.out⟩

set_option maxHeartbeats 4000000 in
theorem rend_row (w : World) (n la : Int) (v : Value) (l : List EntB) (h : SrcEB w v l) (hs : Sorted ltI l) (hl : l.length ≤ 1000) (t : Int) (hh : hasK ltI l t = true) :
    Calls Try.prog 20 #[.agg #[.int .i64 n, .int .i64 la, v], .int .i64 t] w fun e w' => ∃ v', e = .returned (.tuple #[.agg #[.int .i64 n, .int .i64 la, v'], .int .i64 0]) ∧ TxRow w' v' (delK ltI l t) ∧ (∀ k, v'.ownBlock = some k → w.heap.size ≤ k) ∧ Kept (fun _ => False) w w' := by
  have hp := hasK_lt hh
  have hdel : delK ltI l t = l.take (posK ltI l t) ++ l.drop (posK ltI l t + 1) := by unfold delK remK; rw [if_pos hh]
  rw [hdel]
  have HA : Hid (∀ w', Kept (fun _ => False) w w' → Calls Try.prog 29 #[.agg #[.int .i64 n, .int .i64 la, v], .int .i64 t] w' fun e w'' => e = .returned (.int .i64 ((posK ltI l t : Nat) : Int)) ∧ Kept (fun _ => False) w' w'') := hide (fun w' hk => rat_at w' n la v l (h.kept hk) hs hl t _ (by unfold atK; rw [hh]; rfl))
  obtain ⟨ao, cap, rfl⟩ := h.sl
  obtain ⟨g, off, rfl, _⟩ := h.get hp
  have hcap : l.length ≤ cap := by
    obtain ⟨_, _, e, h2, _⟩ := h
    cases e
    exact h2
  have HT := hide (h.take (posK ltI l t) (by omega))
  obtain ⟨so, hso⟩ : ∃ so, so = if cap = posK ltI l t + 1 then off else off + (posK ltI l t + 1) * 2 := ⟨_, rfl⟩
  have HDr := hide (h.drop (posK ltI l t + 1) (by omega) hso)
  have HSo := hide hso
  clear h hs hh hdel hso
  obtain ⟨i0, hi0, hz0, hs0, hb0⟩ := info_parts Try.info30
  have Hi0 := hide hi0
  have Hz0 := hide hz0
  obtain ⟨iX, hiX, hzX, hsX, hbX⟩ := info_parts Try.info57
  have HiX := hide hiX
  have HzX := hide hzX
  have HsX := hide hsX
  obtain ⟨iS, hiS, hzS, hsS, hbS⟩ := info_parts Try.info28
  have HiS := hide hiS
  have HsS := hide hsS
  clear hi0 hz0 hs0 hb0 hiX hzX hsX hbX hiS hzS hsS hbS
  generalize posK ltI l t = i at *
  obtain ⟨len, hlen⟩ : ∃ len, len = l.length := ⟨_, rfl⟩
  rw [← hlen] at HA HDr hcap hl hp ⊢
  have HLl : Hid ((l.take i).length + (l.drop (i + 1)).length ≤ 1000) := hide (by rw [List.length_take, List.length_drop]; omega)
  obtain ⟨lt1, hlt1⟩ : ∃ q, q = l.take i := ⟨_, rfl⟩
  obtain ⟨ld1, hld1⟩ : ∃ q, q = l.drop (i + 1) := ⟨_, rfl⟩
  rw [← hlt1] at HT HLl ⊢
  rw [← hld1] at HDr HLl ⊢
  clear hlen hlt1 hld1
  have hi0I : ¬ ((i : Nat) : Int) < 0 := by omega
  go_enter Try.func20, Try.ntmps20
  go_wp2_with (first
    | ((with_reducible refine aw_box (t := 30) (v := .agg #[.int .i64 n, .int .i64 la, .slice (some ⟨g, off, none⟩) len cap]) rfl ?_); intro w1 hb1 hk1 hz1; have HK1 := hide hk1; have HB1 := hide hb1; have Hz1 := hide hz1; clear hk1 hz1 hb1)
    | ((with_reducible refine aw_alloc (t := 30) (dst := some 4) Hi0.out Hz0.out ?_); intro w2 hw2 hk2 hz2; have HK2 := hide (HK1.out.trans hk2 (fun _ _ h => h)); have HB2 := hide (hk2.blk HB1.out (fun h => h)); have HW2 : Hid (Blk w2 w1.heap.size [.int .i64 0, .int .i64 0, .slice none 0 0] 30) := hide hw2; have Hz2 := hide hz2; clear hz2 hw2 hk2)
    | ((with_reducible refine aw_load (M := [.int .i64 n, .int .i64 la, .slice (some ⟨g, off, none⟩) len cap]) Try.agg30 rfl HB2.out (by simp [Value.cells]) rfl ?_))
    | (go_at_call 29; refine (HA.out w2 HK2.out).mono ?_; rintro e w3 ⟨rfl, hk3⟩; have HK3 := hide (HK2.out.trans hk3 (fun _ _ h => h)); have HB3 := hide (hk3.blk HB2.out (fun h => h)); have HW3 := hide (hk3.blk HW2.out (fun h => h)); have c0 : w3.cell? ⟨w.heap.size, 0, none⟩ = some (.int .i64 n) := HB3.out.cell 0; have c2 : w3.cell? ⟨w.heap.size, 2, none⟩ = some (.slice (some ⟨g, off, none⟩) len cap) := HB3.out.cell 2; clear hk3))
  clear c0 c2
  refine hold_frame (p := fun fr => Code.wp Try.prog _ _ fr _) ?_
  intro fr hfr
  have e2 : fr.eval (.tmp 2) = .pointer (some ⟨w.heap.size, 0, none⟩) := by rw [hfr.out]; rfl
  have e6 : fr.eval (.tmp 6) = .int .i64 ((i : Nat) : Int) := by rw [hfr.out]; rfl
  have hts : fr.tmps.size = 27 := by rw [hfr.out]; rfl
  refine region_S0 13 Try.mixed ?_
  intro w0 hkw hheap
  have hB0 : Blk w0 w.heap.size [.int .i64 n, .int .i64 la, .slice (some ⟨g, off, none⟩) len cap] 30 := hkw.blk HB3.out (fun h => h)
  have hS0 : Kept (fun _ => False) w0 w0 := Kept.refl _ w0
  have hsz0 : w.heap.size < w0.heap.size := hB0.lt
  have HT0 := hide (HT.out.kept (HK3.out.trans hkw (fun _ _ h => h)))
  have HD0 := hide (HDr.out.kept (HK3.out.trans hkw (fun _ _ h => h)))
  refine ⟨Kept (fun _ => False) w0, ?_⟩
  refine tkS 1 14 (v := .pointer (some ⟨w.heap.size, 2, none⟩)) hS0 rfl rfl (by kernel_rfl) (by kernel_rfl) (by kernel_rfl) (by kernel_rfl) (wanted_none rfl) (fun _ _ _ h => h) (fun U hU => r_fK2 (by simp [eval_put_ne, eval_put_eq, size_put, hts, e2])) ?_
  refine tkS 2 15 (v := .slice (some ⟨g, off, none⟩) len cap) hS0 rfl rfl (by kernel_rfl) (by kernel_rfl) (by kernel_rfl) (by kernel_rfl) (wanted_none rfl) (fun _ _ _ h => h) (fun U hU => r_ldTS (by simp [eval_put_ne, eval_put_eq, size_put, hts]) ((hU.blk hB0 (fun h => h)).cell 2)) ?_
  refine tkS 3 16 (v := .int .i64 ((i : Nat) : Int)) hS0 rfl rfl (by kernel_rfl) (by kernel_rfl) (by kernel_rfl) (by kernel_rfl) (wanted_none rfl) (fun _ _ _ h => h) (fun U hU => r_move (by simp [eval_put_ne, eval_put_eq, size_put, hts, e6])) ?_
  refine tkS 4 17 (v := .slice (some ⟨g, off, none⟩) i cap) hS0 rfl rfl (by kernel_rfl) (by kernel_rfl) (by kernel_rfl) (by kernel_rfl) (wanted_none rfl) (fun _ _ _ h => h) (fun U hU => run_slice_hiT (k := .i64) (len := len) Try.underlying28 HiX.out (by simp [eval_put_ne, eval_put_eq, size_put, hts]) i (by simp [eval_put_ne, eval_put_eq, size_put, hts]) (by omega) (by omega)) ?_
  refine tkS 6 19 (v := .pointer (some ⟨w.heap.size, 2, none⟩)) hS0 rfl rfl (by kernel_rfl) (by kernel_rfl) (by kernel_rfl) (by kernel_rfl) (wanted_none rfl) (fun _ _ _ h => h) (fun U hU => r_fK2 (by simp [eval_put_ne, eval_put_eq, size_put, hts, e2])) ?_
  refine tkS 7 20 (v := .slice (some ⟨g, off, none⟩) len cap) hS0 rfl rfl (by kernel_rfl) (by kernel_rfl) (by kernel_rfl) (by kernel_rfl) (wanted_none rfl) (fun _ _ _ h => h) (fun U hU => r_ldTS (by simp [eval_put_ne, eval_put_eq, size_put, hts]) ((hU.blk hB0 (fun h => h)).cell 2)) ?_
  refine tkS 8 21 (v := .int .i64 ((i : Nat) : Int)) hS0 rfl rfl (by kernel_rfl) (by kernel_rfl) (by kernel_rfl) (by kernel_rfl) (wanted_none rfl) (fun _ _ _ h => h) (fun U hU => r_move (by simp [eval_put_ne, eval_put_eq, size_put, hts, e6])) ?_
  refine tkS 9 22 (v := .int .i64 ((i + 1 : Nat) : Int)) hS0 rfl rfl (by kernel_rfl) (by kernel_rfl) (by kernel_rfl) (by kernel_rfl) (wanted_none rfl) (fun _ _ _ h => h) (fun U hU => r_addK (i := i) (by simp [eval_put_ne, eval_put_eq, size_put, hts]) rfl (by omega)) ?_
  refine tkS 10 23 (v := .slice (some ⟨g, so, none⟩) (len - (i + 1)) (cap - (i + 1))) hS0 rfl rfl (by kernel_rfl) (by kernel_rfl) (by kernel_rfl) (by kernel_rfl) (wanted_none rfl) (fun _ _ _ h => h) (fun U hU => run_slice_any (k := .i64) (b := g) (off := off) (len := len) (cap := cap) Try.underlying28 HiX.out (by simp [eval_put_ne, eval_put_eq, size_put, hts]) (i + 1) (by simp [eval_put_ne, eval_put_eq, size_put, hts]) (by omega) so (by rw [HsX.out]; exact HSo.out)) ?_
  have hb1 := Blk.new w0 [] 57
  rw [show (([] : List Value).toArray) = #[] from rfl] at hb1
  have hka1 : Kept (fun _ => False) w0 (w0.alloc (.cells #[] 57)) := Kept.alloc _ _ _
  refine oneVS 0 13 (v := .slice (some ⟨w0.heap.size, 0, none⟩) 0 0) (by kernel_rfl) rfl rfl (wanted_none rfl) (r_bs0T) hka1 ?_
  obtain ⟨g1, hg1⟩ : ∃ g, w0.heap.size = g := ⟨_, rfl⟩
  rw [hg1] at hb1 ⊢
  generalize w0.alloc (.cells #[] 57) = u1 at hb1 hka1 ⊢
  have hr1 := TxRow.nil0 hb1
  obtain ⟨v2, u2, hrun2, hr2, hka2, hob2⟩ := hr1.app (HT0.out.kept hka1) (by have := HLl.out; simp; omega) 28
  rw [List.nil_append] at hr2
  have hk2 : Kept (fun _ => False) w0 u2 := hka1.trans hka2 (fun j hj h => by simp [Value.ownBlock] at h; omega)
  have hn2 : ∀ j, v2.ownBlock = some j → w0.heap.size ≤ j := fun j hj => by
    rcases hob2 with h | h
    · rw [h] at hj; simp [Value.ownBlock] at hj; omega
    · rw [h] at hj; cases hj; exact hka1.size
  refine oneVS 5 18 (v := v2) (by kernel_rfl) rfl rfl (wanted_none rfl) (r_app (by simp [eval_put_ne, eval_put_eq, size_put, hts]) (by simp [eval_put_ne, eval_put_eq, size_put, hts]) hrun2) hk2 ?_
  obtain ⟨v3, u3, hrun3, hr3, hka3, hob3⟩ := hr2.app (HD0.out.kept hk2) (by have := HLl.out; omega) 28
  have hk3 : Kept (fun _ => False) w0 u3 := hk2.trans hka3 (fun j hj h => by have := hn2 j h; omega)
  have hn3 : ∀ j, v3.ownBlock = some j → w0.heap.size ≤ j := fun j hj => by
    rcases hob3 with h | h
    · rw [h] at hj; exact hn2 j hj
    · rw [h] at hj; cases hj; exact hk2.size
  refine oneVS 11 24 (v := v3) (by kernel_rfl) rfl rfl (wanted_none rfl) (r_app (by simp [eval_put_ne, eval_put_eq, size_put, hts]) (by simp [eval_put_ne, eval_put_eq, size_put, hts]) hrun3) hk3 ?_
  refine tkS 12 25 (v := .pointer (some ⟨w.heap.size, 2, none⟩)) hk3 rfl rfl (by kernel_rfl) (by kernel_rfl) (by kernel_rfl) (by kernel_rfl) (wanted_none rfl) (fun _ _ _ h => h) (fun U hU => r_fK2 (by simp [eval_put_ne, eval_put_eq, size_put, hts, e2])) ?_
  obtain ⟨a3, c3, rfl⟩ := hr3.sl
  obtain ⟨L3, hL3⟩ : ∃ L3, (lt1 ++ ld1).length = L3 := ⟨_, rfl⟩
  rw [hL3] at hr3 hn3 hrun3 hob3 ⊢
  have hB8 := hk3.blk hB0 (fun h => h)
  refine lastS (by kernel_rfl) rfl (wanted_none rfl) (run_store_one (v := .slice a3 L3 c3) (off := 2) HiS.out HsS.out (by simp [eval_put_ne, eval_put_eq, size_put, hts]) (by simp [eval_put_ne, eval_put_eq, size_put, hts]) rfl rfl hB8 (by simp)) (by kernel_rfl) ?_
  have hb9 := hB8.setRow (List.set [Value.int .i64 n, .int .i64 la, .slice (some ⟨g, off, none⟩) len cap] 2 (.slice a3 L3 c3))
  have hk9 := Kept.setRow (S := fun k => k = w.heap.size) u3 w.heap.size (List.set [Value.int .i64 n, .int .i64 la, .slice (some ⟨g, off, none⟩) len cap] 2 (.slice a3 L3 c3)).toArray rfl
  generalize u3.setRow w.heap.size (List.set [Value.int .i64 n, .int .i64 la, .slice (some ⟨g, off, none⟩) len cap] 2 (.slice a3 L3 c3)).toArray = w9 at hb9 hk9 ⊢
  have hB9 : Blk w9 w.heap.size [.int .i64 n, .int .i64 la, .slice a3 L3 c3] 30 := hb9
  have HB9 := hide hB9
  have HNe : Hid (w1.heap.size ≠ w.heap.size) := hide (by have := Hz1.out; omega)
  have HR9 := hide (hr3.kept hk9 (fun j hj h => by have := hn3 j hj; omega))
  have HN9 : Hid (∀ j, (Value.slice a3 L3 c3).ownBlock = some j → w.heap.size ≤ j) := hide (fun j hj => by have := hn3 j hj; omega)
  have hk29 : Kept (fun k => k = w.heap.size) w3 w9 := ((hkw.mono (T := fun k => k = w.heap.size) (fun _ _ h => h.elim)).trans hk3 (fun _ _ h => h.elim)).trans hk9 (fun _ _ h => h)
  have HK9 := hide (HK3.out.trans hk29 (fun i hi h => by omega))
  have HW9 := hide (hk29.blk HW3.out (fun e => HNe.out e))
  rw [hfr.out]
  clear hfr e2 e6 hts hb9 hk9 hB9 hB8 hrun2 hka2 hob2 hr2 hk2 hn2 hrun3 hka3 hob3 hr3 hk3 hn3 hk29 hB0 hS0 HT0 HD0 hsz0 hb1 hka1 hr1 hg1 hL3
  simp only [put_lit, put_none, List.set_cons_succ, List.set_cons_zero]
  go_wp2_with (first
    | ((with_reducible refine aw_load (M := [.int .i64 n, .int .i64 la, .slice a3 L3 c3]) Try.agg30 rfl HB9.out (by simp [Value.cells]) rfl ?_))
    | ((with_reducible refine aw_store (M := [.int .i64 n, .int .i64 la, .slice a3 L3 c3]) Try.agg30 rfl rfl rfl (by simp [Value.oneCell']) HW9.out (by simp [Value.cells]) ?_); intro w10 hw10 hk10 hz10; rw [put_whole _ _ (by simp [Value.cells])] at hw10; have HW10 := hide hw10; have HK10 := hide hk10; clear hz10 hw10 hk10))
  refine bodyPost_ret (results_cb rfl Try.agg30 rfl HW10.out rfl rfl) rfl ?_
  refine ⟨_, rfl, HR9.out.kept HK10.out (fun j hj h => ?_), HN9.out, HK9.out.trans HK10.out (fun i hi h => by have := Hz1.out; omega)⟩
  subst h
  exact ownsRow_blk_ne HR9.out HW9.out (by decide) hj
end Go.Proofs.Ytclfklcboigifaa
