/-
  New, of the pool and of the document's own.
-/
import Derived.Test.YtnlcmgdeohbmoaaJ38
namespace Go.Proofs.Ytnlcmgdeohbmoaa
open Go.RowKit Go.Shelf
set_option linter.unusedSimpArgs false
set_option linter.unusedVariables false
set_option maxRecDepth 100000

/-- A store in a region that draws, the only one that may come up. -/
theorem oneSS {P : Program} {ops : Array Oper} {Q : Exit → Act → World → Prop} {md : Region.Mode} {S : World → Prop} {m fuel : Nat} {listed : Array Bool} {a : Act} {w w' : World} (i : Nat) {oi : Oper} (hr : Region.ready md ops listed = [i]) (hi : ops[i]? = some oi) (hw : Region.wanted oi (yielded ops a.tmps) = true) (hrun : (execOp a.eval oi).run P w = .ok .skip w') (hS : S w')
    (h : wpAnyM P md ops Q S m fuel (listed.setIfInBounds i true) (a.put oi.dst undef) w') : wpAnyM P md ops Q S m (fuel + 1) listed a w := by
  refine oneS i hr ?_
  unfold wpOp
  simp only [hi, hw, if_true]
  refine .inl ?_
  unfold Oper.wp
  rw [hrun]
  exact ⟨fun _ => hS, h⟩
def newE (nd : Nat) (fr n : Int) : Int := if fr < 0 ∨ n < 1 ∨ 64 < n then 2 else if (nd : Int) < fr + n then 11 else 0
theorem poolnew_nil (w : World) (fr n : Int) : Calls Try.prog 8 #[.pointer none, .int .i64 fr, .int .i64 n] w fun e w' => e = .returned (.tuple #[.pointer none, .int .i64 1]) ∧ w = w' := by
  go_enter Try.func8, Try.ntmps8
  go_wp2
  go_ret2
  exact ⟨rfl, rfl⟩
theorem poolnew_err (w : World) (db nd : Nat) (s : D.DS) (F : NSet) (h : D.DevAt w db nd s F) (fr n : Int) (hfr : fr ≤ 9223372036854775807) (he : newE nd fr n ≠ 0) :
    Calls Try.prog 8 #[.pointer (some ⟨db, 0, none⟩), .int .i64 fr, .int .i64 n] w fun e w' => e = .returned (.tuple #[.pointer none, .int .i64 (newE nd fr n)]) ∧ w = w' := by
  have hn2 : nd ≤ 4096 := by obtain ⟨bs, wv, hd, _⟩ := h; exact hd.n2
  have HS := hide (D.size_at w db nd s F h)
  clear h
  by_cases h1 : n < 1
  · have HE : Hid (newE nd fr n = 2) := hide (if_pos (.inr (.inl h1)))
    rw [HE.out]
    clear he
    go_enter Try.func8, Try.ntmps8
    go_wp2
    go_ret2
    exact ⟨rfl, rfl⟩
  · by_cases h2 : 64 < n
    · have HE : Hid (newE nd fr n = 2) := hide (if_pos (.inr (.inr h2)))
      rw [HE.out]
      clear he
      go_enter Try.func8, Try.ntmps8
      go_wp2
      go_ret2
      exact ⟨rfl, rfl⟩
    · by_cases h3 : fr < 0
      · have HE : Hid (newE nd fr n = 2) := hide (if_pos (.inl h3))
        rw [HE.out]
        clear he
        go_enter Try.func8, Try.ntmps8
        go_wp2
        go_ret2
        exact ⟨rfl, rfl⟩
      · have hne : ¬ (fr < 0 ∨ n < 1 ∨ 64 < n) := by omega
        have h4 : (nd : Int) < fr + n := by
          unfold newE at he
          rw [if_neg hne] at he
          by_cases h : (nd : Int) < fr + n
          · exact h
          · rw [if_neg h] at he; exact absurd rfl he
        have HE : Hid (newE nd fr n = 11) := hide (by unfold newE; rw [if_neg hne, if_pos h4])
        have h5 : (nd : Int) - fr < n := by omega
        have hw : IntKind.i64.wrap ((nd : Int) - fr) = (nd : Int) - fr := by rw [IntKind.wrap_i64]; omega
        rw [HE.out]
        clear he hne
        go_enter Try.func8, Try.ntmps8
        go_wp2_with (go_at_call 27; refine HS.out.mono ?_; rintro e w1 ⟨rfl, rfl⟩)
        go_ret2
        exact ⟨rfl, rfl⟩
theorem pimage_nil (w : World) : Calls Try.prog 12 #[.pointer none] w fun e w' => e = .returned (.tuple #[.pointer none, .int .i64 1]) ∧ w = w' := by
  go_enter Try.func12, Try.ntmps12
  go_wp2
  go_ret2
  exact ⟨rfl, rfl⟩
def zeroPL : List Value := [.string ⟨#[]⟩, .slice none 0 0, .int .i64 0, .int .i64 0, .bool false, .int .i64 0, .slice none 0 0, .slice none 0 0]
theorem zeroPL_one : ∀ v ∈ zeroPL, v.oneCell' = true := by
  intro v hv
  simp [zeroPL] at hv
  rcases hv with rfl | rfl | rfl | rfl | rfl | rfl | rfl | rfl <;> rfl
section
variable {ρ : Operand → Value} {w : World} {dst : Option Tmp} {ty : TypeId} {pos : String} {aft : Array Edge} {gd : Option (Nat × Bool)} {x y z u : Operand}
theorem r_ldA {t n b : Nat} {L : List Value} {e : TypeId} (ht : aggSize Try.prog t n) (hx : ρ x = .pointer (some ⟨b, 0, none⟩)) (hb : Blk w b L e) (hl : L.length = n) : (execOp ρ ⟨dst, .load t x, ty, pos, aft, gd⟩).run Try.prog w = .ok (.value (.agg L.toArray)) w := by
  have h := run_load_agg (dst := dst) (ty := ty) (pos := pos) (aft := aft) (gd := gd) ht hx hb (by omega : 0 + n ≤ L.length)
  rw [List.drop_zero, List.take_of_length_le (by omega)] at h
  exact h
theorem r_build37_0 : (execOp ρ ⟨dst, .build 37 #[], ty, pos, aft, gd⟩).run Try.prog w = .ok (.value (.agg zeroPL.toArray)) w := by
  have hr := run_build (P := Try.prog) w 37 #[] _ (by simpa using built37_0)
  simp [execOp, hr, zeroPL]
theorem r_build37 {s : D.DS} {ro : Option Addr} {rl rc fr : Nat} {ho : Option Addr} {hl hc : Nat} {to : Option Addr} {tl tc : Nat} (h0 : ρ x = D.refA s (.slice ro rl rc)) (h1 : ρ y = .int .i64 fr) (h2 : ρ z = .slice ho hl hc) (h3 : ρ u = .slice to tl tc) :
    (execOp ρ ⟨dst, .build 37 #[(0, x), (1, y), (2, z), (3, u)], ty, pos, aft, gd⟩).run Try.prog w = .ok (.value (refP s (.slice ro rl rc) fr (.slice ho hl hc) (.slice to tl tc))) w := by
  have hr := run_build (P := Try.prog) w 37 #[(0, D.refA s (.slice ro rl rc)), (1, .int .i64 fr), (2, .slice ho hl hc), (3, .slice to tl tc)] _ (by simpa [D.refA] using built37 (D.strV s.st) ro rl rc s.calls s.left fr s.off ho hl hc to tl tc)
  simp [execOp, h0, h1, h2, h3, hr, refP, refPL]
end
set_option maxHeartbeats 2000000 in
theorem rpnew_err (w : World) (s : D.DS) (nd : Nat) (hs : DOk s nd) (ro : Option Addr) (rl rc : Nat) (fr n : Int) (he : newE nd fr n ≠ 0) :
    Calls Try.prog 9 #[D.refA s (.slice ro rl rc), .int .i64 fr, .int .i64 n] w fun e w' => e = .returned (.tuple #[.agg zeroPL.toArray, .int .i64 (newE nd fr n)]) ∧ Kept (fun _ => False) w w' := by
  obtain ⟨i0, hi0, hz0, hs0, hb0⟩ := info_parts Try.info37
  have Hi0 := hide hi0
  have Hz0 := hide hz0
  clear hi0 hz0 hs0 hb0
  have HZ1 := hide zeroPL_one
  have hn2 := hs.n2
  have hsz : (D.strV s.st).size = 64 * nd := by rw [D.strV_size, hs.hl]
  obtain ⟨T, hT⟩ : ∃ T, T = D.strV s.st := ⟨_, rfl⟩
  have HT : Hid (D.refA s (.slice ro rl rc) = .agg #[.string T, .slice ro rl rc, .int .i64 s.calls, .int .i64 s.left, .bool s.off]) := hide (by rw [hT]; rfl)
  rw [← hT] at hsz
  have h64 : ((64 * nd : Nat) : Int).tdiv 64 = nd := by rw [Int.tdiv_eq_ediv_of_nonneg (by omega)]; omega
  rw [HT.out]
  clear hs hT HT
  by_cases h3 : fr < 0
  · have HE : Hid (newE nd fr n = 2) := hide (if_pos (.inl h3))
    rw [HE.out]
    clear he
    go_enter Try.func9, Try.ntmps9
    go_wp2_with (first
      | ((with_reducible refine aw_box (t := 33) rfl ?_); intro w1 hw1 hk1 hz1; have HK1 := hide hk1; have HZ := hide hz1; clear hw1 hk1 hz1)
      | ((with_reducible refine aw_alloc (t := 37) (dst := some 6) Hi0.out Hz0.out ?_); intro w2 hw2 hk2 hz2; have HK2 := hide hk2; have HR2 := hide hw2; clear hw2 hk2 hz2)
      | (with_reducible refine wpList_run rfl r_build37_0 ?_)
      | (with_reducible refine stop_store 37 ?_))
    refine hide ?_
    refine aw_store (M := zeroPL) Try.agg37 rfl rfl rfl HZ1.out HR2.out (by rw [zero37]; decide) ?_
    intro w7 hw7 hk7 hz7
    rw [put_whole _ _ (by rw [zero37]; rfl)] at hw7
    try simp only [put_lit, put_none, List.set_cons_succ, List.set_cons_zero]
    go_wp2
    exact bodyPost_ret (D.results_cell_tmp (t := 6) (u := 7) (ty := 37) rfl Try.agg37 rfl hw7 rfl rfl) rfl ⟨rfl, (HK1.out.trans HK2.out (fun _ _ h => h)).trans hk7 (fun i hi e => by have := HK1.out.size; omega)⟩
  · by_cases h1 : n < 1
    · have HE : Hid (newE nd fr n = 2) := hide (if_pos (.inr (.inl h1)))
      rw [HE.out]
      clear he
      go_enter Try.func9, Try.ntmps9
      go_wp2_with (first
        | ((with_reducible refine aw_box (t := 33) rfl ?_); intro w1 hw1 hk1 hz1; have HK1 := hide hk1; have HZ := hide hz1; have HW1 := hide hw1; clear hw1 hk1 hz1)
        | ((with_reducible refine aw_alloc (t := 37) (dst := some 6) Hi0.out Hz0.out ?_); intro w2 hw2 hk2 hz2; have HK2 := hide hk2; have HR2 := hide hw2; have hb := hk2.blk HW1.out (fun h => h); have c0 : w2.cell? ⟨w.heap.size, 0, none⟩ = some (.string T) := hb.cell 0; clear hw2 hk2 hz2 hb)
        | (with_reducible refine wpList_run rfl r_build37_0 ?_)
        | (with_reducible refine stop_store 37 ?_))
      refine hide ?_
      refine aw_store (M := zeroPL) Try.agg37 rfl rfl rfl HZ1.out HR2.out (by rw [zero37]; decide) ?_
      intro w7 hw7 hk7 hz7
      rw [put_whole _ _ (by rw [zero37]; rfl)] at hw7
      try simp only [put_lit, put_none, List.set_cons_succ, List.set_cons_zero]
      go_wp2
      exact bodyPost_ret (D.results_cell_tmp (t := 6) (u := 7) (ty := 37) rfl Try.agg37 rfl hw7 rfl rfl) rfl ⟨rfl, (HK1.out.trans HK2.out (fun _ _ h => h)).trans hk7 (fun i hi e => by have := HK1.out.size; omega)⟩
    · by_cases h2 : 64 < n
      · have HE : Hid (newE nd fr n = 2) := hide (if_pos (.inr (.inr h2)))
        rw [HE.out]
        clear he
        go_enter Try.func9, Try.ntmps9
        go_wp2_with (first
          | ((with_reducible refine aw_box (t := 33) rfl ?_); intro w1 hw1 hk1 hz1; have HK1 := hide hk1; have HZ := hide hz1; have HW1 := hide hw1; clear hw1 hk1 hz1)
          | ((with_reducible refine aw_alloc (t := 37) (dst := some 6) Hi0.out Hz0.out ?_); intro w2 hw2 hk2 hz2; have HK2 := hide hk2; have HR2 := hide hw2; have hb := hk2.blk HW1.out (fun h => h); have c0 : w2.cell? ⟨w.heap.size, 0, none⟩ = some (.string T) := hb.cell 0; clear hw2 hk2 hz2 hb)
          | (with_reducible refine wpList_run rfl r_build37_0 ?_)
          | (with_reducible refine stop_store 37 ?_))
        refine hide ?_
        refine aw_store (M := zeroPL) Try.agg37 rfl rfl rfl HZ1.out HR2.out (by rw [zero37]; decide) ?_
        intro w7 hw7 hk7 hz7
        rw [put_whole _ _ (by rw [zero37]; rfl)] at hw7
        try simp only [put_lit, put_none, List.set_cons_succ, List.set_cons_zero]
        go_wp2
        exact bodyPost_ret (D.results_cell_tmp (t := 6) (u := 7) (ty := 37) rfl Try.agg37 rfl hw7 rfl rfl) rfl ⟨rfl, (HK1.out.trans HK2.out (fun _ _ h => h)).trans hk7 (fun i hi e => by have := HK1.out.size; omega)⟩
      · have hne : ¬ (fr < 0 ∨ n < 1 ∨ 64 < n) := by omega
        have h4 : (nd : Int) < fr + n := by
          unfold newE at he
          rw [if_neg hne] at he
          by_cases h : (nd : Int) < fr + n
          · exact h
          · rw [if_neg h] at he; exact absurd rfl he
        have HE : Hid (newE nd fr n = 11) := hide (by unfold newE; rw [if_neg hne, if_pos h4])
        have h5 : (nd : Int) - n < fr := by omega
        have hw : IntKind.i64.wrap ((nd : Int) - n) = (nd : Int) - n := by rw [IntKind.wrap_i64]; omega
        have hwn : IntKind.i64.wrap (nd : Int) = nd := by rw [IntKind.wrap_i64]; omega
        have h64b : (64 : Int) * (nd : Int) / 64 = nd := by omega
        have h64c : ((64 : Int) * (nd : Int)).tdiv 64 = nd := by rw [Int.tdiv_eq_ediv_of_nonneg (by omega)]; omega
        rw [HE.out]
        clear he hne
        go_enter Try.func9, Try.ntmps9
        go_wp2_with (first
          | ((with_reducible refine aw_box (t := 33) rfl ?_); intro w1 hw1 hk1 hz1; have HK1 := hide hk1; have HZ := hide hz1; have HW1 := hide hw1; clear hw1 hk1 hz1)
          | ((with_reducible refine aw_alloc (t := 37) (dst := some 6) Hi0.out Hz0.out ?_); intro w2 hw2 hk2 hz2; have HK2 := hide hk2; have HR2 := hide hw2; have hb := hk2.blk HW1.out (fun h => h); have c0 : w2.cell? ⟨w.heap.size, 0, none⟩ = some (.string T) := hb.cell 0; clear hw2 hk2 hz2 hb)
          | (with_reducible refine wpList_run rfl r_build37_0 ?_)
          | (with_reducible refine stop_store 37 ?_))
        refine hide ?_
        refine aw_store (M := zeroPL) Try.agg37 rfl rfl rfl HZ1.out HR2.out (by rw [zero37]; decide) ?_
        intro w7 hw7 hk7 hz7
        rw [put_whole _ _ (by rw [zero37]; rfl)] at hw7
        try simp only [put_lit, put_none, List.set_cons_succ, List.set_cons_zero]
        go_wp2
        exact bodyPost_ret (D.results_cell_tmp (t := 6) (u := 7) (ty := 37) rfl Try.agg37 rfl hw7 rfl rfl) rfl ⟨rfl, (HK1.out.trans HK2.out (fun _ _ h => h)).trans hk7 (fun i hi e => by have := HK1.out.size; omega)⟩
set_option maxHeartbeats 4000000 in
theorem rpnew_ok (w : World) (s : D.DS) (nd : Nat) (hs : DOk s nd) (rv : Value) (hw : WtAt w rv s) (fr n : Nat) (hn : 1 ≤ n ∧ n ≤ 64) (hf : fr + n ≤ nd) :
    Calls Try.prog 9 #[D.refA s rv, .int .i64 fr, .int .i64 n] w fun e w' => ∃ hv dv, e = .returned (.tuple #[refP s rv fr hv dv, .int .i64 0]) ∧ RfP w' w.heap.size nd s rv fr n hv dv (noH n) (noT n) ∧ Kept (fun _ => False) w w' := by
  obtain ⟨ro, rc, rfl⟩ := hw.slice
  have HWt := hide hw
  have HDk := hide hs
  have Hn := hide hn
  obtain ⟨i0, hi0, hz0, hs0, hb0⟩ := info_parts Try.info37
  have Hi0 := hide hi0
  have Hz0 := hide hz0
  obtain ⟨i9, hi9, hz9, hs9, hb9⟩ := info_parts Try.info9
  have Hi9 := hide hi9
  have Hz9 := hide hz9
  have Hs9 := hide hs9
  have Hb9 := hide hb9
  obtain ⟨i4, hi4, hz4, hs4, hb4⟩ := info_parts Try.info4
  have Hi4 := hide hi4
  have Hz4 := hide hz4
  have Hs4 := hide hs4
  have Hb4 := hide hb4
  clear hi0 hz0 hs0 hb0 hi9 hz9 hs9 hb9 hi4 hz4 hs4 hb4
  have hn2 := hs.n2
  have hsz : (D.strV s.st).size = 64 * nd := by rw [D.strV_size, hs.hl]
  have h1 : ¬ ((fr : Int) < 0) := by omega
  have h2 : ¬ ((n : Int) < 1) := by omega
  have h3 : ¬ ((64 : Int) < (n : Int)) := by omega
  have h5 : ¬ ((nd : Int) - (n : Int) < (fr : Int)) := by omega
  have hwr : IntKind.i64.wrap ((nd : Int) - (n : Int)) = (nd : Int) - (n : Int) := by rw [IntKind.wrap_i64]; omega
  have hwn : IntKind.i64.wrap (nd : Int) = nd := by rw [IntKind.wrap_i64]; omega
  have h64b : (64 : Int) * (nd : Int) / 64 = nd := by omega
  have h64c : ((64 : Int) * (nd : Int)).tdiv 64 = nd := by rw [Int.tdiv_eq_ediv_of_nonneg (by omega)]; omega
  have h64 : ((64 * nd : Nat) : Int).tdiv 64 = nd := by rw [Int.tdiv_eq_ediv_of_nonneg (by omega)]; omega
  obtain ⟨V, hV⟩ : ∃ V, V = D.refA s (.slice ro s.ws.length rc) := ⟨_, rfl⟩
  have HV' := hide hV
  obtain ⟨DL, hDL⟩ : ∃ DL, DL = D.refL s (.slice ro s.ws.length rc) := ⟨_, rfl⟩
  have HDL := hide hDL
  have HD5 : Hid (DL.length = 5) := hide (by rw [hDL]; rfl)
  have HDt : Hid ((DL.drop 0).take 5 = DL) := hide (by rw [hDL]; rfl)
  have Hag : Hid (Value.agg DL.toArray = V) := hide (by rw [hV, hDL]; rfl)
  rw [← hV]
  obtain ⟨T, hT⟩ : ∃ T, T = D.strV s.st := ⟨_, rfl⟩
  have HT := hide hT
  rw [← hT] at hsz
  have HFit := hide hf
  clear hs hw hn hf hV hDL hT
  go_enter Try.func9, Try.ntmps9
  go_wp2_with (first
    | ((with_reducible refine aw_box (t := 33) rfl ?_); intro w1 hw1 hk1 hz1; have HK1 := hide hk1; have HZ := hide hz1; rw [HV'.out] at hw1; have hw1' : Blk w1 w.heap.size (D.refL s (.slice ro s.ws.length rc)) 33 := hw1; rw [← HDL.out] at hw1'; have HW1 := hide hw1'; clear hw1 hw1' hk1 hz1)
    | ((with_reducible refine aw_alloc (t := 37) (dst := some 6) Hi0.out Hz0.out ?_); intro w2 hw2 hk2 hz2; have HK2 := hide hk2; have HR2 := hide hw2; have HZ2 := hide hz2; have HW2 := hide (hk2.blk HW1.out (fun h => h)); have c0 : w2.cell? ⟨w.heap.size, 0, none⟩ = some (.string T) := (HW2.out.cell 0).trans (by rw [HDL.out, HT.out]; rfl); clear hw2 hk2 hz2)
    | fail)
  refine hold_frame (p := fun fr => Code.wp Try.prog _ _ fr _) ?_
  intro fa hfr
  have e1 : fa.eval (.tmp 1) = .int .i64 fr := by rw [hfr.out]; rfl
  have e2 : fa.eval (.tmp 2) = .int .i64 n := by rw [hfr.out]; rfl
  have e3 : fa.eval (.tmp 3) = .pointer (some ⟨w.heap.size, 0, none⟩) := by rw [hfr.out]; rfl
  have e6 : fa.eval (.tmp 6) = .pointer (some ⟨w1.heap.size, 0, none⟩) := by rw [hfr.out]; rfl
  have hts : fa.tmps.size = 35 := by rw [hfr.out]; rfl
  refine region_S0 99 Try.mixed ?_
  intro w3 hk3 hheap
  have hS0 : (fun U : World => Blk U w.heap.size DL 33) w3 := hk3.blk HW2.out (fun h => h)
  refine ⟨fun U => Blk U w.heap.size DL 33, ?_⟩
  refine tkS 0 28 (v := V) hS0 rfl rfl (by kernel_rfl) (by kernel_rfl) (by kernel_rfl) (by kernel_rfl) (wanted_none rfl) (fun _ _ _ h => h) (fun U hU => by rw [← Hag.out]; exact r_ldA (b := w.heap.size) D.Try.agg33 (by simp [eval_put_ne, eval_put_eq, size_put, hts, e3]) hU HD5.out) ?_
  refine tkS 1 29 (v := .int .i64 fr) hS0 rfl rfl (by kernel_rfl) (by kernel_rfl) (by kernel_rfl) (by kernel_rfl) (wanted_none rfl) (fun _ _ _ h => h) (fun U hU => r_move (by simp [eval_put_ne, eval_put_eq, size_put, hts, e1])) ?_
  refine tkS 2 30 (v := .int .i64 n) hS0 rfl rfl (by kernel_rfl) (by kernel_rfl) (by kernel_rfl) (by kernel_rfl) (wanted_none rfl) (fun _ _ _ h => h) (fun U hU => r_move (by simp [eval_put_ne, eval_put_eq, size_put, hts, e2])) ?_
  refine tkS 4 32 (v := .int .i64 n) hS0 rfl rfl (by kernel_rfl) (by kernel_rfl) (by kernel_rfl) (by kernel_rfl) (wanted_none rfl) (fun _ _ _ h => h) (fun U hU => r_move (by simp [eval_put_ne, eval_put_eq, size_put, hts, e2])) ?_
  refine twoS 3 5 (by kernel_rfl) ?_ ?_
  · skip
    refine stepVS 3 31 (v := .slice (some ⟨w3.heap.size, 0, none⟩) n n) rfl rfl (wanted_none rfl) (run_make_op (kl := .i64) (kc := .i64) 1 (by decide) Try.underlying34 Hi9.out Hz9.out (z := .string ⟨#[]⟩) rfl Hs9.out n (by simp [eval_put_ne, eval_put_eq, size_put, hts]) (by simp [eval_put_ne, eval_put_eq, size_put, hts]) (by rw [Hb9.out]; have := Hn.out; omega) (by have := Hn.out; unfold maxLen; omega)) (fun _ => (Kept.alloc (fun _ => False) _ _).blk hS0 (fun h => h)) ?_
    have hb4 := Blk.new w3 (List.replicate (n * 1) (.string ⟨#[]⟩)) 9
    have hk4 : Kept (fun _ => False) w3 (w3.alloc (.cells (List.replicate (n * 1) (Value.string ⟨#[]⟩)).toArray 9)) := Kept.alloc _ _ _
    have hz4 : (w3.alloc (.cells (List.replicate (n * 1) (Value.string ⟨#[]⟩)).toArray 9)).heap.size = w3.heap.size + 1 := by simp
    generalize w3.alloc (.cells (List.replicate (n * 1) (Value.string ⟨#[]⟩)).toArray 9) = w4 at hb4 hk4 hz4 ⊢
    refine oneVS 5 33 (v := .slice (some ⟨w4.heap.size, 0, none⟩) n n) (by kernel_rfl) rfl rfl (wanted_none rfl) (run_make_op (kl := .i64) (kc := .i64) 1 (by decide) Try.underlying35 Hi4.out Hz4.out (z := .bool false) rfl Hs4.out n (by simp [eval_put_ne, eval_put_eq, size_put, hts]) (by simp [eval_put_ne, eval_put_eq, size_put, hts]) (by rw [Hb4.out]; have := Hn.out; omega) (by have := Hn.out; unfold maxLen; omega)) ((Kept.alloc (fun _ => False) _ _).blk (hk4.blk hS0 (fun h => h)) (fun h => h)) ?_
    have hb5 := Blk.new w4 (List.replicate (n * 1) (.bool false)) 4
    have hk5 : Kept (fun _ => False) w4 (w4.alloc (.cells (List.replicate (n * 1) (Value.bool false)).toArray 4)) := Kept.alloc _ _ _
    generalize w4.alloc (.cells (List.replicate (n * 1) (Value.bool false)).toArray 4) = w5 at hb5 hk5 ⊢
    have hS5 : Kept (fun _ => False) w3 w5 := hk4.trans hk5 (fun _ _ h => h)
    obtain ⟨PL, hPL⟩ : ∃ L, L = refPL s (.slice ro s.ws.length rc) fr (.slice (some ⟨w3.heap.size, 0, none⟩) n n) (.slice (some ⟨w4.heap.size, 0, none⟩) n n) := ⟨_, rfl⟩
    have hP1 : ∀ v ∈ PL, v.oneCell' = true := by rw [hPL]; exact refPL_one
    have hP8 : PL.length = 8 := by rw [hPL]; rfl
    refine tkS 6 34 (v := .agg PL.toArray) (hS5.blk hS0 (fun h => h)) rfl rfl (by kernel_rfl) (by kernel_rfl) (by kernel_rfl) (by kernel_rfl) (wanted_none rfl) (fun _ _ _ h => h) (fun U hU => by rw [hPL]; exact r_build37 (s := s) (ro := ro) (rl := s.ws.length) (rc := rc) (fr := fr) (ho := some ⟨w3.heap.size, 0, none⟩) (hl := n) (hc := n) (to := some ⟨w4.heap.size, 0, none⟩) (tl := n) (tc := n) (by rw [← HV'.out]; simp [eval_put_ne, eval_put_eq, size_put, hts]) (by simp [eval_put_ne, eval_put_eq, size_put, hts]) (by simp [eval_put_ne, eval_put_eq, size_put, hts]) (by simp [eval_put_ne, eval_put_eq, size_put, hts])) ?_
    have hr5 : Blk w5 w1.heap.size _ 37 := hS5.blk (hk3.blk HR2.out (fun h => h)) (fun h => h)
    refine oneSS 7 (by kernel_rfl) rfl (wanted_none rfl) (run_store_agg (P := Try.prog) (b := w1.heap.size) (off := 0) (M := PL) Try.agg37 (by simp [eval_put_ne, eval_put_eq, size_put, hts, e6]) (by simp [eval_put_ne, eval_put_eq, size_put, hts]) hP8 hP1 hr5 (by rw [zero37]; decide)) ?_ ?_
    · exact (Kept.setRow (S := fun k => k = w1.heap.size) _ _ _ rfl).blk (hS5.blk hS0 (fun h => h)) (fun e => by have := HZ.out; omega)
    have hb7 := hr5.setRow (PL)
    have hk7 : Kept (fun k => k = w1.heap.size) w5 (w5.setRow w1.heap.size PL.toArray) := Kept.setRow (S := fun k => k = w1.heap.size) _ _ _ rfl
    have e7 : (List.take 0 (Value.cells (Value.agg #[.string ⟨#[]⟩, .slice none 0 0, .int .i64 0, .int .i64 0, .bool false, .int .i64 0, .slice none 0 0, .slice none 0 0])).toList ++ PL ++ List.drop (0 + 8) (Value.cells (Value.agg #[.string ⟨#[]⟩, .slice none 0 0, .int .i64 0, .int .i64 0, .bool false, .int .i64 0, .slice none 0 0, .slice none 0 0])).toList) = PL := by simp [Value.cells]
    rw [e7]
    generalize w5.setRow w1.heap.size PL.toArray = w7 at hb7 hk7 ⊢
    refine tkS 8 7 (v := .int .i64 0) (hk7.blk (hS5.blk hS0 (fun h => h)) (fun e => by have := HZ.out; omega)) rfl rfl (by kernel_rfl) (by kernel_rfl) (by kernel_rfl) (by kernel_rfl) (wanted_none rfl) (fun _ _ _ h => h) (fun U hU => r_assign rfl) ?_
    refine doneS (by kernel_rfl) ?_
    rw [hfr.out]
    clear hfr e1 e2 e3 e6 hts
    simp only [put_lit, put_none, List.set_cons_succ, List.set_cons_zero]
    have s1 := HK1.out.size
    have s3 := hk3.size
    have z1 := HZ.out
    have z2 := HZ2.out
    have k05 : Kept (fun _ => False) w w5 := ((HK1.out.trans HK2.out (fun _ _ h => h)).trans hk3 (fun _ _ h => h)).trans hS5 (fun _ _ h => h)
    have k07 : Kept (fun _ => False) w w7 := k05.trans hk7 (fun i hi e => by omega)
    have qh : Blk w7 w3.heap.size (HV (noH n)) 9 := by
      have h3 := hk7.blk (hk5.blk hb4 (fun h => h)) (fun e => by omega)
      rw [Nat.mul_one] at h3
      rw [HV_no]
      exact h3
    have qt : Blk w7 w4.heap.size (TV (noT n)) 4 := by
      have h3 := hk7.blk hb5 (fun e => by have := hk4.size; omega)
      rw [Nat.mul_one] at h3
      rw [TV_no]
      exact h3
    have HN3 := hide (show w.heap.size ≤ w3.heap.size by have := HK2.out.size; omega)
    clear hb4 hb5 hr5 e7 z1 z2 s1 s3 hz4
    go_wp2
    refine bodyPost_ret (D.results_cell_tmp (t := 6) (u := 7) (ty := 37) rfl Try.agg37 rfl hb7 hP8 rfl) rfl ⟨_, _, by rw [hPL]; rfl, ?_, k07⟩
    exact { dok := HDk.out, wt := HWt.out.kept k07, hh := RowB.new qh (by rw [HV_length]; simp [noH]) Hn.out.2 (by have := hk4.size; have := HN3.out; omega), hd := RowB.new qt (by rw [TV_length]; simp [noT]) Hn.out.2 (by have := hk4.size; have := HN3.out; omega), fit := HFit.out, n64 := Hn.out }
  · skip
    refine stepVS 5 33 (v := .slice (some ⟨w3.heap.size, 0, none⟩) n n) rfl rfl (wanted_none rfl) (run_make_op (kl := .i64) (kc := .i64) 1 (by decide) Try.underlying35 Hi4.out Hz4.out (z := .bool false) rfl Hs4.out n (by simp [eval_put_ne, eval_put_eq, size_put, hts]) (by simp [eval_put_ne, eval_put_eq, size_put, hts]) (by rw [Hb4.out]; have := Hn.out; omega) (by have := Hn.out; unfold maxLen; omega)) (fun _ => (Kept.alloc (fun _ => False) _ _).blk hS0 (fun h => h)) ?_
    have hb4 := Blk.new w3 (List.replicate (n * 1) (.bool false)) 4
    have hk4 : Kept (fun _ => False) w3 (w3.alloc (.cells (List.replicate (n * 1) (Value.bool false)).toArray 4)) := Kept.alloc _ _ _
    have hz4 : (w3.alloc (.cells (List.replicate (n * 1) (Value.bool false)).toArray 4)).heap.size = w3.heap.size + 1 := by simp
    generalize w3.alloc (.cells (List.replicate (n * 1) (Value.bool false)).toArray 4) = w4 at hb4 hk4 hz4 ⊢
    refine oneVS 3 31 (v := .slice (some ⟨w4.heap.size, 0, none⟩) n n) (by kernel_rfl) rfl rfl (wanted_none rfl) (run_make_op (kl := .i64) (kc := .i64) 1 (by decide) Try.underlying34 Hi9.out Hz9.out (z := .string ⟨#[]⟩) rfl Hs9.out n (by simp [eval_put_ne, eval_put_eq, size_put, hts]) (by simp [eval_put_ne, eval_put_eq, size_put, hts]) (by rw [Hb9.out]; have := Hn.out; omega) (by have := Hn.out; unfold maxLen; omega)) ((Kept.alloc (fun _ => False) _ _).blk (hk4.blk hS0 (fun h => h)) (fun h => h)) ?_
    have hb5 := Blk.new w4 (List.replicate (n * 1) (.string ⟨#[]⟩)) 9
    have hk5 : Kept (fun _ => False) w4 (w4.alloc (.cells (List.replicate (n * 1) (Value.string ⟨#[]⟩)).toArray 9)) := Kept.alloc _ _ _
    generalize w4.alloc (.cells (List.replicate (n * 1) (Value.string ⟨#[]⟩)).toArray 9) = w5 at hb5 hk5 ⊢
    have hS5 : Kept (fun _ => False) w3 w5 := hk4.trans hk5 (fun _ _ h => h)
    obtain ⟨PL, hPL⟩ : ∃ L, L = refPL s (.slice ro s.ws.length rc) fr (.slice (some ⟨w4.heap.size, 0, none⟩) n n) (.slice (some ⟨w3.heap.size, 0, none⟩) n n) := ⟨_, rfl⟩
    have hP1 : ∀ v ∈ PL, v.oneCell' = true := by rw [hPL]; exact refPL_one
    have hP8 : PL.length = 8 := by rw [hPL]; rfl
    refine tkS 6 34 (v := .agg PL.toArray) (hS5.blk hS0 (fun h => h)) rfl rfl (by kernel_rfl) (by kernel_rfl) (by kernel_rfl) (by kernel_rfl) (wanted_none rfl) (fun _ _ _ h => h) (fun U hU => by rw [hPL]; exact r_build37 (s := s) (ro := ro) (rl := s.ws.length) (rc := rc) (fr := fr) (ho := some ⟨w4.heap.size, 0, none⟩) (hl := n) (hc := n) (to := some ⟨w3.heap.size, 0, none⟩) (tl := n) (tc := n) (by rw [← HV'.out]; simp [eval_put_ne, eval_put_eq, size_put, hts]) (by simp [eval_put_ne, eval_put_eq, size_put, hts]) (by simp [eval_put_ne, eval_put_eq, size_put, hts]) (by simp [eval_put_ne, eval_put_eq, size_put, hts])) ?_
    have hr5 : Blk w5 w1.heap.size _ 37 := hS5.blk (hk3.blk HR2.out (fun h => h)) (fun h => h)
    refine oneSS 7 (by kernel_rfl) rfl (wanted_none rfl) (run_store_agg (P := Try.prog) (b := w1.heap.size) (off := 0) (M := PL) Try.agg37 (by simp [eval_put_ne, eval_put_eq, size_put, hts, e6]) (by simp [eval_put_ne, eval_put_eq, size_put, hts]) hP8 hP1 hr5 (by rw [zero37]; decide)) ?_ ?_
    · exact (Kept.setRow (S := fun k => k = w1.heap.size) _ _ _ rfl).blk (hS5.blk hS0 (fun h => h)) (fun e => by have := HZ.out; omega)
    have hb7 := hr5.setRow (PL)
    have hk7 : Kept (fun k => k = w1.heap.size) w5 (w5.setRow w1.heap.size PL.toArray) := Kept.setRow (S := fun k => k = w1.heap.size) _ _ _ rfl
    have e7 : (List.take 0 (Value.cells (Value.agg #[.string ⟨#[]⟩, .slice none 0 0, .int .i64 0, .int .i64 0, .bool false, .int .i64 0, .slice none 0 0, .slice none 0 0])).toList ++ PL ++ List.drop (0 + 8) (Value.cells (Value.agg #[.string ⟨#[]⟩, .slice none 0 0, .int .i64 0, .int .i64 0, .bool false, .int .i64 0, .slice none 0 0, .slice none 0 0])).toList) = PL := by simp [Value.cells]
    rw [e7]
    generalize w5.setRow w1.heap.size PL.toArray = w7 at hb7 hk7 ⊢
    refine tkS 8 7 (v := .int .i64 0) (hk7.blk (hS5.blk hS0 (fun h => h)) (fun e => by have := HZ.out; omega)) rfl rfl (by kernel_rfl) (by kernel_rfl) (by kernel_rfl) (by kernel_rfl) (wanted_none rfl) (fun _ _ _ h => h) (fun U hU => r_assign rfl) ?_
    refine doneS (by kernel_rfl) ?_
    rw [hfr.out]
    clear hfr e1 e2 e3 e6 hts
    simp only [put_lit, put_none, List.set_cons_succ, List.set_cons_zero]
    have s1 := HK1.out.size
    have s3 := hk3.size
    have z1 := HZ.out
    have z2 := HZ2.out
    have k05 : Kept (fun _ => False) w w5 := ((HK1.out.trans HK2.out (fun _ _ h => h)).trans hk3 (fun _ _ h => h)).trans hS5 (fun _ _ h => h)
    have k07 : Kept (fun _ => False) w w7 := k05.trans hk7 (fun i hi e => by omega)
    have qh : Blk w7 w4.heap.size (HV (noH n)) 9 := by
      have h3 := hk7.blk hb5 (fun e => by have := hk4.size; omega)
      rw [Nat.mul_one] at h3
      rw [HV_no]
      exact h3
    have qt : Blk w7 w3.heap.size (TV (noT n)) 4 := by
      have h3 := hk7.blk (hk5.blk hb4 (fun h => h)) (fun e => by omega)
      rw [Nat.mul_one] at h3
      rw [TV_no]
      exact h3
    have HN3 := hide (show w.heap.size ≤ w3.heap.size by have := HK2.out.size; omega)
    clear hb4 hb5 hr5 e7 z1 z2 s1 s3 hz4
    go_wp2
    refine bodyPost_ret (D.results_cell_tmp (t := 6) (u := 7) (ty := 37) rfl Try.agg37 rfl hb7 hP8 rfl) rfl ⟨_, _, by rw [hPL]; rfl, ?_, k07⟩
    exact { dok := HDk.out, wt := HWt.out.kept k07, hh := RowB.new qh (by rw [HV_length]; simp [noH]) Hn.out.2 (by have := hk4.size; have := HN3.out; omega), hd := RowB.new qt (by rw [TV_length]; simp [noT]) Hn.out.2 (by have := hk4.size; have := HN3.out; omega), fit := HFit.out, n64 := Hn.out }
end Go.Proofs.Ytnlcmgdeohbmoaa
