/-
  Write and Read of a book.
-/
import Derived.Test.YtclfklcboigifaaTxG
namespace Go.Proofs.Ytclfklcboigifaa
open Go.RowKit Go.Shelf
set_option linter.unusedSimpArgs false
set_option linter.unusedVariables false
set_option maxRecDepth 100000

theorem write_nil (w : World) (t k : Int) (d : Sl) : Calls Try.prog 12 #[.pointer none, .int .i64 t, .int .i64 k, .slice d.a d.n d.c] w fun e w' => e = .returned (.int .i64 1) ∧ w = w' := by
  go_enter Try.func12, Try.ntmps12
  go_wp2_with fail
  refine (wrs_nil w t k).mono ?_
  rintro e w1 ⟨rfl, rfl⟩
  go_wp2
  go_ret
  exact ⟨rfl, rfl⟩
theorem write_no (w : World) (b : Nat) (n last : Int) (L : Txs) (X : NSet) (h : BkAt w b n last L X) (hl : L.length ≤ 1000) (t k : Int) (d : Sl) (r : Int) (hr : txErr n L t k = r) (hr0 : r ≠ 0) :
    Calls Try.prog 12 #[.pointer (some ⟨b, 0, none⟩), .int .i64 t, .int .i64 k, .slice d.a d.n d.c] w fun e w' => e = .returned (.int .i64 r) ∧ Kept (fun _ => False) w w' := by
  obtain ⟨p, v, E, h, hL, hx⟩ := h
  have hEL : E.length = L.length := by rw [← hL, rowsX_len]
  have HC := hide (wrs_at w b p v n last E h (by omega) t k)
  rw [hL, hr] at HC
  clear h hx hL hEL hr
  go_enter Try.func12, Try.ntmps12
  go_wp2_with fail
  refine HC.out.mono ?_
  rintro e w1 ⟨⟨sa, sn, sc⟩, rfl, _, hk⟩
  go_wp2
  go_ret
  exact ⟨rfl, hk⟩
theorem write_len (w : World) (b : Nat) (n last : Int) (L : Txs) (X : NSet) (h : BkAt w b n last L X) (hl : L.length ≤ 1000) (t k : Int) (d : Sl) (hr : txErr n L t k = 0) (hd : d.n ≠ 64) :
    Calls Try.prog 12 #[.pointer (some ⟨b, 0, none⟩), .int .i64 t, .int .i64 k, .slice d.a d.n d.c] w fun e w' => e = .returned (.int .i64 42) ∧ Kept (fun _ => False) w w' := by
  obtain ⟨p, v, E, h, hL, hx⟩ := h
  have hEL : E.length = L.length := by rw [← hL, rowsX_len]
  have HC := hide (wrs_at w b p v n last E h (by omega) t k)
  rw [hL, hr] at HC
  have hdI : ¬ ((d.n : Nat) : Int) = 64 := by omega
  clear h hx hL hEL hr hd
  go_enter Try.func12, Try.ntmps12
  go_wp2_with fail
  refine HC.out.mono ?_
  rintro e w1 ⟨⟨sa, sn, sc⟩, rfl, _, hk⟩
  go_wp2
  go_ret
  exact ⟨rfl, hk⟩
set_option maxHeartbeats 2000000 in
theorem write_ok (w : World) (b : Nat) (n last : Int) (L : Txs) (X : NSet) (h : BkAt w b n last L X) (hl : L.length ≤ 1000) (c : Nat) (hc : c ≤ 1000) (hok : okTx c L) (t k : Int) (d : Sl) (B : List Nat) (hs : Src w d.v B) (hr : txErr n L t k = 0) (hd : B.length = 64) :
    Calls Try.prog 12 #[.pointer (some ⟨b, 0, none⟩), .int .i64 t, .int .i64 k, .slice d.a d.n d.c] w fun e w' => e = .returned (.int .i64 0) ∧ BStep w w' b n last (txW L t k B) X := by
  obtain ⟨p, v, E, h, hL, hx⟩ := h
  have hEL : E.length = L.length := by rw [← hL, rowsX_len]
  have HC := hide (wrs_at w b p v n last E h (by omega) t k)
  rw [hL, hr] at HC
  have hcur := h.cur t
  have hrow := curX_rows E t
  have hv := hok.val t
  rw [hL] at hrow
  rw [hrow] at hv
  obtain ⟨da, dn, dc⟩ := d
  have hdn : dn = 64 := by
    obtain ⟨bo, c', e, _⟩ := hs
    simp only [Sl.v, Value.slice.injEq] at e
    omega
  subst hdn
  have HRw : Hid (txW L t k B = putK ltI (rowsX E) t (mergeW ((curX E t).2.map Wv.wr ++ [⟨k, B⟩]))) := hide (by unfold txW; rw [hrow, hL])
  rw [HRw.out]
  have HI := hide h
  have HX := hide hx
  have HS := hide hs
  have HEl : Hid ((entsX E).length ≤ 1000000) := hide (by rw [entsX_len]; omega)
  clear h hx hL hrow hEL hl hok hr HRw hs
  generalize hce : curX E t = ce at *
  clear hce
  obtain ⟨⟨ca, cn, cc⟩, cw⟩ := ce
  simp only at hcur hv HC ⊢
  rw [List.length_map] at hv
  have HCu := hide (hcur.at (by omega))
  have HV : Hid (allV [((⟨ca, cn, cc⟩ : Sl), cw), ((⟨some ⟨0, 0, none⟩, 1, 1⟩ : Sl), [⟨k, ⟨da, 64, dc⟩, B⟩])] = cw ++ [⟨k, ⟨da, 64, dc⟩, B⟩] ∧ (cw ++ [(⟨k, ⟨da, 64, dc⟩, B⟩ : Wv)]).length ≤ 1000000 ∧ ∀ y ∈ cw ++ [(⟨k, ⟨da, 64, dc⟩, B⟩ : Wv)], y.B.length ≤ 90000000) := hide (by
    refine ⟨by simp [allV], by simp; omega, fun y hy => ?_⟩
    rcases List.mem_append.1 hy with hy | hy
    · have := hv.2.1 y.wr (List.mem_map_of_mem hy)
      have e2 : y.wr.B = y.B := rfl
      rw [e2] at this
      omega
    · rw [List.mem_singleton] at hy
      subst hy
      show B.length ≤ _
      omega)
  clear hcur hv hd
  obtain ⟨i2, hi2, hz2, hs2, hb2⟩ := info_parts Try.info63
  obtain ⟨i3, hi3, hz3, hs3, hb3⟩ := info_parts Try.info33
  have Hi2 := hide hi2
  have Hz2 := hide hz2
  have Hs2 := hide hs2
  have Hi3 := hide hi3
  have Hz3 := hide hz3
  have Hs3 := hide hs3
  clear hi2 hz2 hs2 hb2 hi3 hz3 hs3 hb3
  go_enter Try.func12, Try.ntmps12
  go_wp2_with fail
  refine HC.out.mono ?_
  rintro e w1 ⟨⟨sa, sn, sc⟩, rfl, he, hk1⟩
  obtain ⟨rfl, rfl, rfl⟩ : sa = ca ∧ sn = cn ∧ sc = cc := by simpa using he
  have HK1 := hide hk1
  clear he hk1
  go_wp2
  refine hold_frame (p := fun fr => Code.wp Try.prog _ _ fr _) ?_
  intro fr hfr
  have e0 : fr.eval (.tmp 0) = .pointer (some ⟨b, 0, none⟩) := by rw [hfr.out]; rfl
  have e1 : fr.eval (.tmp 1) = .int .i64 t := by rw [hfr.out]; rfl
  have e2 : fr.eval (.tmp 2) = .int .i64 k := by rw [hfr.out]; rfl
  have e3 : fr.eval (.tmp 3) = .slice da 64 dc := by rw [hfr.out]; rfl
  have e9 : fr.eval (.tmp 9) = .slice sa sn sc := by rw [hfr.out]; rfl
  have hts : fr.tmps.size = 37 := by rw [hfr.out]; rfl
  refine region_S 99 (fun U => Blk U b [.int .i64 n, .int .i64 last, .pointer (some ⟨p, 0, none⟩)] 66) Try.mixed ?_
  intro w0 hkw hheap
  have hi0 := (HI.out.kept HK1.out (fun _ _ h => h)).kept hkw (fun _ _ h => h)
  have HKw := hide (HK1.out.trans hkw (fun _ _ h => h))
  have hS0 := hi0.blk
  have HI0 := hide hi0
  clear hi0 hkw hheap
  refine tkS 0 24 (v := .pointer (some ⟨b, 0, none⟩)) hS0 rfl rfl (by kernel_rfl) (by kernel_rfl) (by kernel_rfl) (by kernel_rfl) (wanted_none rfl) (fun _ _ _ h => h) (fun U hU => r_move (by simp [eval_put_ne, eval_put_eq, size_put, hts, e0])) ?_
  refine tkS 1 25 (v := .pointer (some ⟨b, 0, none⟩)) hS0 rfl rfl (by kernel_rfl) (by kernel_rfl) (by kernel_rfl) (by kernel_rfl) (wanted_none rfl) (fun _ _ _ h => h) (fun U hU => r_nilX (by simp [eval_put_ne, eval_put_eq, size_put, hts])) ?_
  refine tkS 2 26 (v := .pointer (some ⟨b, 2, none⟩)) hS0 rfl rfl (by kernel_rfl) (by kernel_rfl) (by kernel_rfl) (by kernel_rfl) (wanted_none rfl) (fun _ _ _ h => h) (fun U hU => r_fB2 (by simp [eval_put_ne, eval_put_eq, size_put, hts])) ?_
  refine tkS 3 27 (v := .pointer (some ⟨p, 0, none⟩)) hS0 rfl rfl (by kernel_rfl) (by kernel_rfl) (by kernel_rfl) (by kernel_rfl) (wanted_none rfl) (fun _ _ _ h => h) (fun U hU => r_ldPM (by simp [eval_put_ne, eval_put_eq, size_put, hts]) (hU.cell 2)) ?_
  refine tkS 4 28 (v := .int .i64 t) hS0 rfl rfl (by kernel_rfl) (by kernel_rfl) (by kernel_rfl) (by kernel_rfl) (wanted_none rfl) (fun _ _ _ h => h) (fun U hU => r_move (by simp [eval_put_ne, eval_put_eq, size_put, hts, e1])) ?_
  refine tkS 5 29 (v := .slice sa sn sc) hS0 rfl rfl (by kernel_rfl) (by kernel_rfl) (by kernel_rfl) (by kernel_rfl) (wanted_none rfl) (fun _ _ _ h => h) (fun U hU => r_move (by simp [eval_put_ne, eval_put_eq, size_put, hts, e9])) ?_
  refine tkS 6 30 (v := .int .i64 k) hS0 rfl rfl (by kernel_rfl) (by kernel_rfl) (by kernel_rfl) (by kernel_rfl) (wanted_none rfl) (fun _ _ _ h => h) (fun U hU => r_move (by simp [eval_put_ne, eval_put_eq, size_put, hts, e2])) ?_
  refine tkS 7 31 (v := .slice da 64 dc) hS0 rfl rfl (by kernel_rfl) (by kernel_rfl) (by kernel_rfl) (by kernel_rfl) (wanted_none rfl) (fun _ _ _ h => h) (fun U hU => r_move (by simp [eval_put_ne, eval_put_eq, size_put, hts, e3])) ?_
  refine tkS 8 32 (v := .agg #[.int .i64 k, .slice da 64 dc]) hS0 rfl rfl (by kernel_rfl) (by kernel_rfl) (by kernel_rfl) (by kernel_rfl) (wanted_none rfl) (fun _ _ _ h => h) (fun U hU => built40 (by simp [eval_put_ne, eval_put_eq, size_put, hts]) (by simp [eval_put_ne, eval_put_eq, size_put, hts])) ?_
  have hb3 := Blk.new w0 [.int .i64 k, .slice da 64 dc] 63
  have hk3 : Kept (fun _ => False) w0 (w0.alloc (.cells [.int .i64 k, .slice da 64 dc].toArray 63)) := Kept.alloc _ _ _
  refine oneVS 9 33 (v := .slice (some ⟨w0.heap.size, 0, none⟩) 1 1) (by kernel_rfl) rfl rfl (wanted_none rfl) (run_buildSlice_one (M := [.int .i64 k, .slice da 64 dc]) Try.underlying33 Hi2.out Hz2.out Hs2.out (by simp) (by simp) (.inl (by simp [eval_put_ne, eval_put_eq, size_put, hts]))) (hk3.blk hS0 (fun h => h)) ?_
  obtain ⟨g, hg⟩ : ∃ g, w0.heap.size = g := ⟨_, rfl⟩
  rw [hg] at hb3 ⊢
  generalize w0.alloc (.cells [.int .i64 k, .slice da 64 dc].toArray 63) = w3 at hb3 hk3 ⊢
  have HW3 : Hid (WsAt w3 (.slice (some ⟨g, 0, none⟩) 1 1) [⟨k, ⟨da, 64, dc⟩, B⟩]) := hide (by
    refine ⟨⟨_, 1, rfl, Nat.le_refl _, fun _ => ⟨_, 0, rfl, ?_⟩⟩, ?_, by simp⟩
    · have := hb3.cells 0 2
      simpa [encE, Wv.ent] using this
    · intro x hx
      simp at hx
      subst hx
      exact HS.out.kept (HKw.out.trans hk3 (fun _ _ h => h)))
  have HK3 := hide (HKw.out.trans hk3 (fun _ _ h => h))
  have HI3 := hide (HI0.out.kept hk3 (fun _ _ h => h))
  have hS3 := HI3.out.blk
  clear hb3 hk3 hg
  have hb4 := Blk.new w3 [.slice sa sn sc, .slice (some ⟨g, 0, none⟩) 1 1] 33
  have hk4 : Kept (fun _ => False) w3 (w3.alloc (.cells [.slice sa sn sc, .slice (some ⟨g, 0, none⟩) 1 1].toArray 33)) := Kept.alloc _ _ _
  refine oneVS 10 34 (v := .slice (some ⟨w3.heap.size, 0, none⟩) 2 2) (by kernel_rfl) rfl rfl (wanted_none rfl) (run_buildSlice_two (v1 := .slice sa sn sc) (v2 := .slice (some ⟨g, 0, none⟩) 1 1) (M1 := [.slice sa sn sc]) (M2 := [.slice (some ⟨g, 0, none⟩) 1 1]) Try.underlying78 Hi3.out Hz3.out Hs3.out (by simp) (by simp) rfl (by simp [eval_put_ne, eval_put_eq, size_put, hts]) (by simp [eval_put_ne, eval_put_eq, size_put, hts]) (by simp [Value.cells]) (by simp [Value.cells])) (hk4.blk hS3 (fun h => h)) ?_
  obtain ⟨g4, hg4⟩ : ∃ g4, w3.heap.size = g4 := ⟨_, rfl⟩
  rw [hg4] at hb4 ⊢
  have hcat : ([.slice sa sn sc] ++ [.slice (some ⟨g, 0, none⟩) 1 1] : List Value) = [.slice sa sn sc, .slice (some ⟨g, 0, none⟩) 1 1] := rfl
  rw [hcat]
  generalize w3.alloc (.cells [.slice sa sn sc, .slice (some ⟨g, 0, none⟩) 1 1].toArray 33) = w4 at hb4 hk4 ⊢
  have HLs : Hid (LsAt w4 (.slice (some ⟨g4, 0, none⟩) 2 2) [((⟨sa, sn, sc⟩ : Sl), cw), ((⟨some ⟨g, 0, none⟩, 1, 1⟩ : Sl), [⟨k, ⟨da, 64, dc⟩, B⟩])]) := hide (ls_blk hb4 rfl (fun x hx => by
    simp only [List.mem_cons, List.not_mem_nil, or_false] at hx
    rcases hx with rfl | rfl
    · exact HCu.out.kept (HK3.out.trans hk4 (fun _ _ h => h))
    · exact HW3.out.kept hk4) 2 rfl (by decide))
  have HK4 := hide (HK3.out.trans hk4 (fun _ _ h => h))
  have HI4 := hide (HI3.out.kept hk4 (fun _ _ h => h))
  have hS4 := HI4.out.blk
  clear hb4 hk4 hg4 HW3 HI3 hS3 HK3
  have hav : allV [((⟨sa, sn, sc⟩ : Sl), cw), ((⟨some ⟨g, 0, none⟩, 1, 1⟩ : Sl), [(⟨k, ⟨da, 64, dc⟩, B⟩ : Wv)])] = cw ++ [⟨k, ⟨da, 64, dc⟩, B⟩] := by simp [allV]
  refine oneCS 11 35 (by kernel_rfl) rfl rfl (wanted_none rfl) (r_call1 Try.func24 (by kernel_rfl) rfl rfl (by simp [eval_put_ne, eval_put_eq, size_put, hts])) (merge_at w4 _ _ HLs.out (by rw [hav]; exact HV.out.2.1) (by rw [hav]; exact HV.out.2.2)) ?_
  rintro e w5 ⟨⟨ta, tn, tc⟩, ws, rfl, hown, hwr, hwl, hk5, hnew, hge⟩
  rw [hav] at hwr
  have HI5 := hide (HI4.out.kept hk5 (fun _ _ h => h))
  have hS5 := HI5.out.blk
  refine ⟨_, rfl, hS5, ?_⟩
  refine oneCS 12 36 (by kernel_rfl) rfl rfl (wanted_none rfl) (r_call3 Try.func22 (by kernel_rfl) rfl rfl (by simp [eval_put_ne, eval_put_eq, size_put, hts]) (by simp [eval_put_ne, eval_put_eq, size_put, hts]) (by simp [eval_put_ne, eval_put_eq, size_put, hts])) (put_atW w5 p v (entsX E) t ⟨ta, tn, tc⟩ HI5.out.m HEl.out) ?_
  rintro e w6 ⟨rfl, v', hm', hk', hf'⟩
  have hb6 : Blk w6 b [.int .i64 n, .int .i64 last, .pointer (some ⟨p, 0, none⟩)] 66 := hk'.blk hS5 HI5.out.nb
  have ha := HI5.out.aside hk'
  refine ⟨_, rfl, hb6, ?_⟩
  have hmm : MapW w6 p v' (entsX (putK ltI E t (⟨ta, tn, tc⟩, ws))) := by
    have e := putK_map (lt := ltI) (fun x : Sl × List Wv => x.1) E t (⟨ta, tn, tc⟩, ws)
    have hm2 := hm'
    unfold entsX at hm2 ⊢
    rw [← e]
    exact hm2
  have hrr : rowsX (putK ltI E t (⟨ta, tn, tc⟩, ws)) = putK ltI (rowsX E) t (mergeW (cw.map Wv.wr ++ [⟨k, B⟩])) := by
    have e := putK_map (lt := ltI) (fun x : Sl × List Wv => x.2.map Wv.wr) E t (⟨ta, tn, tc⟩, ws)
    unfold rowsX
    rw [← e]
    show putK ltI _ t (ws.map Wv.wr) = _
    rw [hwr, List.map_append]
    rfl
  have hnw : WsOwn w6 (Sl.v ⟨ta, tn, tc⟩) ws := hown.kept hk' (fun j hj => HI5.out.m.ne_row hown.1 hj (by decide) (by decide)) (fun y hy j hj => HI5.out.m.ne_row (hown.2 y hy).1 hj (by decide) (by decide))
  have HF : Hid (BStep w w6 b n last (putK ltI (rowsX E) t (mergeW (cw.map Wv.wr ++ [⟨k, B⟩]))) X) := hide (by
    have hk05 := HK4.out.trans hk5 (fun _ _ h => h)
    have hsz4 := HK4.out.size
    refine ⟨(hk05.mono (T := X) (fun k _ e => e.elim)).trans hk' (fun j _ hj => (HX.out j).2 (.inr (.inl hj))), _, ⟨p, v', _, ⟨hb6, hmm, fun x hx => ?_⟩, hrr, fun _ => Iff.rfl⟩, ?_⟩
    · rcases mem_putK hx with rfl | hx
      · exact hnw
      · exact ha x hx
    · rintro j (hj | hj | ⟨x, hx', hj⟩)
      · exact .inl ((HX.out j).2 (.inl hj))
      · rcases hf' j hj with h | h
        · exact .inl ((HX.out j).2 (.inr (.inl h)))
        · exact .inr (Nat.le_trans hk05.size h)
      · rcases mem_putK hx' with rfl | hx'
        · rcases hj with hj | ⟨y, hy, hj⟩
          · exact .inr (Nat.le_trans hsz4 (hge j hj))
          · exact .inr (Nat.le_trans hsz4 (hnew y hy j hj))
        · exact .inl ((HX.out j).2 (.inr (.inr ⟨x, hx', hj⟩))))
  refine doneS (by kernel_rfl) ?_
  rw [hfr.out]
  clear hfr e0 e1 e2 e3 e9 hts hm' hk' hf' hb6 ha hmm hrr hnw hown hwr hwl hk5 hnew hge hav hcat hS0 hS4 hS5 HI0 HI4 HI5 HKw HK4
  simp only [put_lit, put_none, List.set_cons_succ, List.set_cons_zero]
  go_wp2
  go_ret
  exact ⟨rfl, HF.out⟩
theorem write_at (w : World) (b : Nat) (n last : Int) (L : Txs) (X : NSet) (h : BkAt w b n last L X) (hl : L.length ≤ 1000) (c : Nat) (hc : c ≤ 1000) (hok : okTx c L) (t k : Int) (d : Sl) (B : List Nat) (hs : Src w d.v B) :
    Calls Try.prog 12 #[.pointer (some ⟨b, 0, none⟩), .int .i64 t, .int .i64 k, .slice d.a d.n d.c] w fun e w' => e = .returned (.int .i64 (txWE n L t k B.length)) ∧ BStep w w' b n last (if txWE n L t k B.length = 0 then txW L t k B else L) X := by
  unfold txWE
  have hdn : d.n = B.length := by
    obtain ⟨bo, c', e, _⟩ := hs
    simp only [Sl.v, Value.slice.injEq] at e
    omega
  by_cases h0 : txErr n L t k = 0
  · by_cases hd : B.length = 64
    · refine (write_ok w b n last L X h hl c hc hok t k d B hs h0 hd).mono ?_
      rintro e w' ⟨rfl, h1⟩
      simpa [h0, hd] using h1
    · refine (write_len w b n last L X h hl t k d h0 (by omega)).mono ?_
      rintro e w' ⟨rfl, h1⟩
      simpa [h0, hd] using BStep.still h h1
  · refine (write_no w b n last L X h hl t k d _ rfl h0).mono ?_
    rintro e w' ⟨rfl, h1⟩
    simpa [h0] using BStep.still h h1

theorem read_no (w : World) (b : Nat) (n last : Int) (L : Txs) (X : NSet) (h : BkAt w b n last L X) (hl : L.length ≤ 1000) (t k : Int) (r : Int) (hr : txErr n L t k = r) (hr0 : r ≠ 0) :
    Calls Try.prog 17 #[.pointer (some ⟨b, 0, none⟩), .int .i64 t, .int .i64 k] w fun e w' => e = .returned (.tuple #[.slice none 0 0, .bool false, .int .i64 r]) ∧ Kept (fun _ => False) w w' := by
  obtain ⟨p, v, E, h, hL, hx⟩ := h
  have hEL : E.length = L.length := by rw [← hL, rowsX_len]
  have HC := hide (wrs_at w b p v n last E h (by omega) t k)
  rw [hL, hr] at HC
  clear h hx hL hEL hr
  go_enter Try.func17, Try.ntmps17
  go_wp2_with fail
  refine HC.out.mono ?_
  rintro e w1 ⟨⟨sa, sn, sc⟩, rfl, _, hk⟩
  go_wp2
  go_ret3
  exact ⟨rfl, hk⟩
/-- What Read tells of what is found. -/
def ReadIs (w w' : World) (fd : Option Wr) (e : Ending) : Prop := ∃ s : Sl, e = .returned (.tuple #[.slice s.a s.n s.c, .bool fd.isSome, .int .i64 0]) ∧ Src w' s.v ((fd.map (·.B)).getD []) ∧ Kept (fun _ => False) w w'
theorem ReadIs.yes {w w' : World} {x : Wr} {fd : Option Wr} {a : Option Addr} {n c : Nat} (h : fd = some x) (hs : Src w' (.slice a n c) x.B) (hk : Kept (fun _ => False) w w') : ReadIs w w' fd (.returned (.tuple #[.slice a n c, .bool true, .int .i64 0])) := by
  subst h
  exact ⟨⟨a, n, c⟩, rfl, hs, hk⟩
theorem ReadIs.no {w w' : World} {fd : Option Wr} (h : fd = none) (hk : Kept (fun _ => False) w w') : ReadIs w w' fd (.returned (.tuple #[.slice none 0 0, .bool false, .int .i64 0])) := by
  subst h
  exact ⟨⟨none, 0, 0⟩, rfl, Src.nil _, hk⟩
set_option maxHeartbeats 2000000 in
theorem read_ok (w : World) (b : Nat) (n last : Int) (L : Txs) (X : NSet) (h : BkAt w b n last L X) (hl : L.length ≤ 1000) (c : Nat) (hc : c ≤ 1000) (hok : okTx c L) (t k : Int) (hr : txErr n L t k = 0) :
    Calls Try.prog 17 #[.pointer (some ⟨b, 0, none⟩), .int .i64 t, .int .i64 k] w fun e w' => ReadIs w w' (findW (valK ltI [] L t) k) e := by
  obtain ⟨p, v, E, h, hL, hx⟩ := h
  have hEL : E.length = L.length := by rw [← hL, rowsX_len]
  have HC := hide (wrs_at w b p v n last E h (by omega) t k)
  rw [hL, hr] at HC
  have hcur := h.cur t
  have hrow := curX_rows E t
  have hv := hok.val t
  rw [hL] at hrow
  rw [hrow] at hv ⊢
  clear h hx hL hEL hr hl hok hrow
  generalize hce : curX E t = ce at *
  clear hce
  obtain ⟨⟨ca, cn, cc⟩, cw⟩ := ce
  simp only at hcur hv HC ⊢
  rw [List.length_map] at hv
  have hcw := hcur.at (by omega)
  obtain rfl : cn = cw.length := WsAt.len hcw
  have HCu := hide hcw
  have HV := hide hv.2.1
  have hvl : cw.length ≤ 1000 := by omega
  clear hcur hv hcw
  obtain ⟨fd, hfd⟩ : ∃ fd, findW (cw.map Wv.wr) k = fd := ⟨_, rfl⟩
  rw [hfd]
  have HFd := hide hfd
  clear hfd
  obtain ⟨i0, hi0, hz0, hs0, hb0⟩ := info_parts Try.info63
  have Hi0 := hide hi0
  have Hz0 := hide hz0
  clear hi0 hz0 hs0 hb0
  go_enter Try.func17, Try.ntmps17
  go_wp2_with fail
  refine HC.out.mono ?_
  rintro e w1 ⟨⟨sa, sn, sc⟩, rfl, he, hk1⟩
  obtain ⟨rfl, rfl, rfl⟩ : sa = ca ∧ sn = cw.length ∧ sc = cc := by simpa using he
  have HK1 := hide hk1
  clear he hk1
  go_wp2
  go_loopw [25] (fun iv wr => ∃ i : Nat, iv = .int .i64 i ∧ i ≤ cw.length ∧ Hid (Kept (fun _ => False) w wr) ∧ Hid (findW ((cw.drop i).map Wv.wr) k = fd)) (fun iv _ => cw.length - (intOf iv).toNat)
  case atStart => exact ⟨0, rfl, Nat.zero_le _, HK1, by rw [List.drop_zero]; exact HFd⟩
  case round =>
    clear HK1 HFd
    obtain ⟨i, rfl, hi, HK, HF⟩ := hrel
    by_cases hlt : i < cw.length
    · obtain ⟨ga, off, rfl, c0, c1, hsrc, hnn⟩ := (HCu.out.kept HK.out).get hlt
      have hf := HF.out
      rw [List.drop_eq_getElem_cons hlt, List.map_cons, findW_cons] at hf
      have hBl := HV.out cw[i].wr (List.mem_map_of_mem (List.getElem_mem hlt))
      obtain ⟨x, hx⟩ : ∃ x, x = cw[i] := ⟨_, rfl⟩
      rw [← hx] at c0 c1 hf hBl hsrc
      obtain ⟨bk, ⟨ya, yn, yc⟩, yB⟩ := x
      simp only at c0 c1
      have hf2 : (if bk = k then some (⟨bk, yB⟩ : Wr) else findW ((cw.drop (i + 1)).map Wv.wr) k) = fd := hf
      have hBl2 : yB.length ≤ 64 := hBl
      have HF2 := hide hf2
      have HSr := hide hsrc
      clear hx hf hf2 hBl hsrc hnn HF
      by_cases hbk : bk = k
      · subst hbk
        have HF3 : Hid (fd = some ⟨bk, yB⟩) := hide (by rw [← HF2.out, if_pos rfl])
        clear HF2
        go_wp2_with (first
          | ((with_reducible refine aw_alloc (t := 63) Hi0.out Hz0.out ?_); intro w2 hw2 hk2 hz2; have Hz2 := hide hz2; clear hz2 c0 c1)
          | ((with_reducible refine aw_store (M := [.int .i64 bk, .slice ya yn yc]) Try.agg63 rfl rfl rfl (by simp [Value.oneCell']) hw2 (by simp [Value.cells]) ?_); intro w3 hw3 hk3 hz3; rw [put_whole _ _ (by simp [Value.cells])] at hw3; have f0 : w3.cell? ⟨wr.heap.size, 0, none⟩ = some (.int .i64 bk) := hw3.cell 0; have f1 : w3.cell? ⟨wr.heap.size, 1, none⟩ = some (.slice ya yn yc) := hw3.cell 1; have HK3 := hide (hk2.trans hk3 (S := fun _ => False) (fun i hi h => by omega)); clear hz3 hw2 hw3 hk2 hk3)
          | (go_at_call 31; refine (bclone_at w3 (.slice ya yn yc) yB (HSr.out.kept HK3.out) (by omega)).mono ?_; rintro e w4 ⟨⟨za, zn, zc⟩, rfl, ho, hk4, _⟩; have HO := hide ho.src; have HK4 := hide ((HK.out.trans HK3.out (fun _ _ h => h)).trans hk4 (fun _ _ h => h)); clear ho hk4 f0 f1))
        go_ret3
        exact ReadIs.yes HF3.out HO.out HK4.out
      · have HF3 : Hid (findW ((cw.drop (i + 1)).map Wv.wr) k = fd) := hide (by rw [← HF2.out, if_neg hbk])
        clear HF2
        go_wp2_with (first
          | ((with_reducible refine aw_alloc (t := 63) Hi0.out Hz0.out ?_); intro w2 hw2 hk2 hz2; have Hz2 := hide hz2; clear hz2 c0 c1)
          | ((with_reducible refine aw_store (M := [.int .i64 bk, .slice ya yn yc]) Try.agg63 rfl rfl rfl (by simp [Value.oneCell']) hw2 (by simp [Value.cells]) ?_); intro w3 hw3 hk3 hz3; rw [put_whole _ _ (by simp [Value.cells])] at hw3; have f0 : w3.cell? ⟨wr.heap.size, 0, none⟩ = some (.int .i64 bk) := hw3.cell 0; have HK3 := hide (HK.out.trans (hk2.trans hk3 (S := fun _ => False) (fun i hi h => by omega)) (fun _ _ h => h)); clear hz3 hw2 hw3 hk2 hk3)
          | fail)
        go_roundw
        case rel => exact ⟨i + 1, by simp, by omega, HK3, HF3⟩
        case measure => simp [intOf]; omega
    · obtain rfl : cw.length = i := by omega
      have HF3 : Hid (fd = none) := hide (by rw [← HF.out, List.drop_length]; rfl)
      go_wp2
      go_ret3
      exact ReadIs.no HF3.out HK.out
end Go.Proofs.Ytclfklcboigifaa
