/-
  Get, of package control.
-/
import Derived.Test.YtapoagpkjngjpaaCtT
namespace Go.Proofs.Ytapoagpkjngjpaa
open Go.RowKit Go.Shelf
set_option linter.unusedSimpArgs false
set_option linter.unusedVariables false
set_option maxRecDepth 100000

section
variable {P : Program} {ops : Array Oper} {Q : Exit → Act → World → Prop} {a : Act} {w : World} {rest : List Oper} {dst : Option Tmp} {ty : TypeId} {pos : String} {aft : Array Edge}
/-- A load of a whole struct, where its guard wants it. -/
theorem aw_loadG {g : Nat × Bool} {t : TypeId} {x : Operand} {b off n : Nat} {L M : List Value} {e : TypeId} (hg : Region.wanted ⟨dst, .load t x, ty, pos, aft, some g⟩ (yielded ops a.tmps) = true) (ht : aggSize P t n) (hx : a.eval x = .pointer (some ⟨b, off, none⟩)) (hb : Blk w b L e) (hl : off + n ≤ L.length) (hM : (L.drop off).take n = M)
    (h : wpList P ops Q rest (a.put dst (.agg M.toArray)) w) : wpList P ops Q (⟨dst, .load t x, ty, pos, aft, some g⟩ :: rest) a w := by
  subst hM
  exact wpList_step fun K hK => by rw [if_pos hg]; unfold Oper.wp; rw [run_load_agg ht hx hb hl]; exact hK _ _ h
end
section
variable {P : Program} {ops : Array Oper} {Q : Exit → Act → World → Prop} {a : Act} {w : World} {rest : List Oper}
/-- The walk halts ahead of the operation of that slot. -/
theorem stopAt (d : Nat) {o : Op} {ty : TypeId} {pos : String} {aft : Array Edge} {gd : Option (Nat × Bool)} (h : Hid (wpList P ops Q (⟨some d, o, ty, pos, aft, gd⟩ :: rest) a w)) : wpList P ops Q (⟨some d, o, ty, pos, aft, gd⟩ :: rest) a w := h.out
end
section
variable {ρ : Operand → Value} {w : World} {dst : Option Tmp} {ty : TypeId} {pos : String} {aft : Array Edge} {gd : Option (Nat × Bool)} {x y z : Operand}
theorem r_f51 {b k : Nat} (hk : k < 5) (hx : ρ x = .pointer (some ⟨b, 0, none⟩)) : (execOp ρ ⟨dst, .fieldAddr 51 x k, ty, pos, aft, gd⟩).run Try.prog w = .ok (.value (.pointer (some ⟨b, k, none⟩))) w := by
  match k, hk with
  | 0, _ => go_simp
  | 1, _ => go_simp
  | 2, _ => go_simp
  | 3, _ => go_simp
  | 4, _ => go_simp
theorem built23 (a b c d e f g : Int) : Try.prog.built 23 [(0, .int .i64 a), (1, .int .i64 b), (2, .int .i64 c), (3, .int .i64 d), (4, .int .i64 e), (5, .int .i64 f), (6, .int .i64 g)] = some #[.int .i64 a, .int .i64 b, .int .i64 c, .int .i64 d, .int .i64 e, .int .i64 f, .int .i64 g] := by kernel_rfl
theorem r_build23 {x0 x1 x2 x3 x4 x5 x6 : Operand} (c : Ct) (h0 : ρ x0 = .int .i64 c.gen) (h1 : ρ x1 = .int .i64 c.ep) (h2 : ρ x2 = .int .i64 c.ar) (h3 : ρ x3 = .int .i64 c.tl) (h4 : ρ x4 = .int .i64 c.nm) (h5 : ρ x5 = .int .i64 c.re) (h6 : ρ x6 = .int .i64 c.lo) :
    (execOp ρ ⟨dst, .build 23 #[(0, x0), (1, x1), (2, x2), (3, x3), (4, x4), (5, x5), (6, x6)], ty, pos, aft, gd⟩).run Try.prog w = .ok (.value (.agg (ctV c).toArray)) w := by
  have hr := run_build (P := Try.prog) w 23 #[(0, .int .i64 c.gen), (1, .int .i64 c.ep), (2, .int .i64 c.ar), (3, .int .i64 c.tl), (4, .int .i64 c.nm), (5, .int .i64 c.re), (6, .int .i64 c.lo)] _ (by simpa using built23 c.gen c.ep c.ar c.tl c.nm c.re c.lo)
  simp [execOp, h0, h1, h2, h3, h4, h5, h6, hr, ctV]
end
theorem ct_nobyte {w : World} {r : Nat} {c : Ct} (h : Blk w r (ctV c) 23) : ∀ q, q = r → ∀ i m, w.cell? ⟨q, i, none⟩ ≠ some (.int .u8 m) := by
  rintro q rfl i m hc
  rw [h.cell] at hc
  match i with
  | 0 => simp [ctV] at hc
  | 1 => simp [ctV] at hc
  | 2 => simp [ctV] at hc
  | 3 => simp [ctV] at hc
  | 4 => simp [ctV] at hc
  | 5 => simp [ctV] at hc
  | 6 => simp [ctV] at hc
  | i + 7 => simp [ctV] at hc

set_option maxHeartbeats 8000000 in
theorem ctget_at (w : World) (v : Value) (b : List Nat) (hs : Src w v b) (hl : b.length ≤ 90000000) :
    Calls Try.prog 9 #[v] w fun e w' => e = .returned (.tuple #[ctAgg (getC b).1, .int .i64 (getC b).2]) ∧ Kept (fun _ => False) w w' := by
  obtain ⟨i23, hi23, hz23, hs23, hb23⟩ := info_parts Try.info23
  have Hi23 := hide hi23
  have Hz23 := hide hz23
  obtain ⟨i51, hi51, hz51, hs51, hb51⟩ := info_parts Try.info51
  have Hi51 := hide hi51
  have Hz51 := hide hz51
  obtain ⟨f, hf⟩ : ∃ f, f = (getN b).1 := ⟨_, rfl⟩
  obtain ⟨er, her⟩ : ∃ er, er = (getN b).2 := ⟨_, rfl⟩
  have hfl : f.B.length ≤ 40 := by
    rw [hf]
    by_cases h0 : (getN b).2 = 0
    · exact ((rightN_iff _).1 (getN_right h0)).2.2.2.2.1
    · rw [(getN_err h0).1]; decide
  obtain ⟨n0, B0, E0, q0⟩ : ∃ n B E, scanNum f.B 0 1 = (n, B, E) := ⟨_, _, _, rfl⟩
  obtain ⟨n1, B1, E1, q1⟩ : ∃ n B E, scanNum B0 E0 4 = (n, B, E) := ⟨_, _, _, rfl⟩
  obtain ⟨n2, B2, E2, q2⟩ : ∃ n B E, scanNum B1 E1 8 = (n, B, E) := ⟨_, _, _, rfl⟩
  obtain ⟨n3, B3, E3, q3⟩ : ∃ n B E, scanNum B2 E2 8 = (n, B, E) := ⟨_, _, _, rfl⟩
  obtain ⟨n4, B4, E4, q4⟩ : ∃ n B E, scanNum B3 E3 8 = (n, B, E) := ⟨_, _, _, rfl⟩
  have k0 : B0.length ≤ f.B.length := by have := scanNum_len f.B 0 1; rw [q0] at this; exact this
  have k1 : B1.length ≤ B0.length := by have := scanNum_len B0 E0 4; rw [q1] at this; exact this
  have k2 : B2.length ≤ B1.length := by have := scanNum_len B1 E1 8; rw [q2] at this; exact this
  have k3 : B3.length ≤ B2.length := by have := scanNum_len B2 E2 8; rw [q3] at this; exact this
  have k4 : B4.length ≤ B3.length := by have := scanNum_len B3 E3 8; rw [q4] at this; exact this
  obtain ⟨ct, hct⟩ : ∃ c : Ct, c = ⟨f.lsn, f.ep, n0, n1, n2, n3, n4⟩ := ⟨_, rfl⟩
  have hsc : scanC f.lsn f.ep f.B = (ct, B4, E4) := by
    unfold scanC
    rw [q0]; simp only []
    rw [q1]; simp only []
    rw [q2]; simp only []
    rw [q3]; simp only []
    rw [q4, hct]
  have hgc : getC b = if er ≠ 0 then (ct0, er) else if f.ct ≠ 1 ∨ E4 ≠ 0 ∨ B4.length ≠ 0 ∨ rightC ct = false then (ct0, 20) else (ct, 0) := by
    unfold getC
    rw [← hf, ← her, hsc]
  have HGC := hide hgc
  have HG : Hid (∀ w, Src w v b → Calls Try.prog 21 #[v] w fun e w' => ∃ vb, e = .returned (.tuple #[frAgg f vb, .int .i64 er]) ∧ Src w' vb f.B ∧ Kept (fun _ => False) w w') := hide (fun w h => by rw [hf, her]; exact get_at w v b h hl)
  have G0 : Hid (f.B.length ≤ 90000000) := hide (by omega)
  have G1 : Hid (B0.length ≤ 90000000) := hide (by omega)
  have G2 : Hid (B1.length ≤ 90000000) := hide (by omega)
  have G3 : Hid (B2.length ≤ 90000000) := hide (by omega)
  have G4 : Hid (B3.length ≤ 90000000) := hide (by omega)
  have HQ0 := hide q0
  have HQ1 := hide q1
  have HQ2 := hide q2
  have HQ3 := hide q3
  have HQ4 := hide q4
  have HCT := hide hct
  have HS := hide hs
  obtain ⟨fl, hflE⟩ : ∃ n, n = f.B.length := ⟨_, rfl⟩
  have HflE := hide hflE
  clear hi23 hz23 hs23 hb23 hi51 hz51 hs51 hb51 hf her hfl q0 q1 q2 q3 q4 k0 k1 k2 k3 k4 hct hsc hgc hl hflE
  obtain ⟨bo, cap, rfl⟩ := hs.slice
  obtain ⟨bl, hbl⟩ : ∃ n, n = b.length := ⟨_, rfl⟩
  rw [← hbl] at HG HS ⊢
  clear hs hbl
  go_enter Try.func9, Try.ntmps9
  go_wp2_with (first
    | ((with_reducible refine aw_alloc (dst := some 2) Hi23.out Hz23.out ?_); intro w1 hb1 hk1 hz1)
    | fail)
  refine (HG.out w1 (HS.out.kept hk1)).mono ?_
  rintro e w2 ⟨vb, rfl, hsb, hk2⟩
  obtain ⟨fo, fc, rfl⟩ := hsb.slice
  rw [← HflE.out] at hsb ⊢
  have HB2a : Hid (Blk w2 w.heap.size (ctV ct0) 23) := hide (hk2.blk hb1 (fun h => h))
  have HK2 := hide (hk1.trans hk2 (fun _ _ h => h))
  have HSb := hide hsb
  have HOf := hide (frV_one f fo fl fc)
  obtain ⟨b2, hb2⟩ : ∃ x, x = w.heap.size := ⟨_, rfl⟩
  rw [← hb2] at HB2a ⊢
  have HL2 : Hid (w.heap.size ≤ b2) := hide (by omega)
  clear hb1 hk1 hk2 hz1 hsb hb2 HG
  by_cases h0 : er = 0
  case neg =>
    go_wp2_with (first
      | ((with_reducible refine aw_alloc (dst := some 4) Hi51.out Hz51.out ?_); intro w3 hb3 hk3 hz3; have Yz3 := hide hz3; clear hz3)
      | ((with_reducible refine aw_store (x := .tmp 4) (M := frV f (.slice fo fl fc)) Try.agg51 rfl rfl rfl HOf.out hb3 (by simp [Value.cells]) ?_); intro w4 hw4 hk4 hz4; have Yz4 := hide hz4; clear hz4; rw [put_whole _ _ (by simp [Value.cells, frV])] at hw4)
      | ((with_reducible refine wpList_run rfl r_build23_0 ?_))
      | ((with_reducible refine aw_store (x := .tmp 2) (M := ctV ct0) Try.agg23 rfl rfl rfl (ctV_one ct0) (hk4.blk (hk3.blk HB2a.out (fun h => h)) (by have := HB2a.out.lt; omega)) (by simp [ctV]) ?_); intro w8 hw8 hk8 hz8; rw [put_whole _ _ (by simp [ctV])] at hw8)
      | fail)
    refine bodyPost_ret (results_cell2 (t := 2) (u := 3) (ty := 23) rfl Try.agg23 rfl hw8 rfl) rfl ?_
    rw [show getC b = (ct0, er) from by rw [HGC.out, if_pos h0]]
    exact ⟨rfl, ((HK2.out.trans hk3 (fun _ _ h => h)).trans hk4 (fun i hi h => by have := HK2.out.size; omega)).trans hk8 (fun i hi h => by have := HL2.out; omega)⟩
  case pos =>
  subst h0
  go_wp2_with (first
    | ((with_reducible refine aw_alloc (dst := some 4) Hi51.out Hz51.out ?_); intro w3 hb3 hk3 hz3; have Yz3 := hide hz3; clear hz3)
    | ((with_reducible refine aw_store (x := .tmp 4) (M := frV f (.slice fo fl fc)) Try.agg51 rfl rfl rfl HOf.out hb3 (by simp [Value.cells]) ?_); intro w4 hw4 hk4 hz4; have Yz4 := hide hz4; clear hz4; rw [put_whole _ _ (by simp [Value.cells, frV])] at hw4; have c4 : w4.cell? ⟨w2.heap.size, 4, none⟩ = some (.slice fo fl fc) := hw4.cell 4)
    | fail)
  have hk34 : Kept (fun _ => False) w2 w4 := hk3.trans hk4 (fun i hi h => by omega)
  have HB2b := hide (hk34.blk HB2a.out (fun h => h))
  have HK4 := hide (HK2.out.trans hk34 (fun _ _ h => h))
  have HS4 := hide (HSb.out.kept hk34)
  have HL4 : Hid (w.heap.size ≤ w2.heap.size) := hide (HK2.out.size)
  obtain ⟨b4, hb4⟩ : ∃ x, x = w2.heap.size := ⟨_, rfl⟩
  rw [← hb4] at hw4 HL4 ⊢
  clear c4
  have HB4 := hide hw4
  clear hb3 hk3 hk4 hw4 hk34 hb4 HB2a HK2 HSb HOf
  refine (new_at w4 _ f.B HS4.out G0.out).mono ?_
  rintro e w5 ⟨s, vs, rfl, hsc, hk5, hsz5⟩
  have HSC := hide hsc
  have HBF := hide (hk5.blk HB4.out (fun h => h))
  have HB2c := hide (hk5.blk HB2b.out (fun h => h))
  have HK5 := hide (HK4.out.trans hk5 (fun _ _ h => h))
  have hs2 : b2 ≠ s := by have := HB2b.out.lt; omega
  have hs4 : b4 ≠ s := by have := HB4.out.lt; omega
  have hls : w.heap.size ≤ s := by have := HK4.out.size; omega
  have hb2w : b2 < w5.heap.size := HB2c.out.lt
  have hb4w : b4 < w5.heap.size := HBF.out.lt
  have hsw : s < w5.heap.size := HSC.out.1.lt
  clear hsc hk5 hsz5 HB4 HB2b HK4 HS4
  go_wp2
  refine hold_frame (p := fun fr => Code.wp Try.prog _ _ fr _) ?_
  intro fr hfr
  have e4 : fr.eval (.tmp 4) = .pointer (some ⟨b4, 0, none⟩) := by rw [hfr.out]; rfl
  have e6 : fr.eval (.tmp 6) = .pointer (some ⟨s, 0, none⟩) := by rw [hfr.out]; rfl
  have hts : fr.tmps.size = 55 := by rw [hfr.out]; rfl
  obtain ⟨wr, hwr⟩ : ∃ x, x = w5 := ⟨_, rfl⟩
  rw [← hwr] at HSC HBF HB2c HK5 hb2w hb4w hsw ⊢
  clear hwr
  refine Code.wp_mono (Q := fun e a' w' => e = .normal ∧ ∃ (b7 : Nat) (v5 : Value), a' = ((((((((((((((((fr.put (some 20) (.pointer (some ⟨b4, 0, none⟩))).put (some 21) (.int .i64 f.lsn)).put (some 22) (.pointer (some ⟨b4, 1, none⟩))).put (some 23) (.int .i64 f.ep)).put (some 24) (.pointer (some ⟨s, 0, none⟩))).put (some 26) (.pointer (some ⟨s, 0, none⟩))).put (some 28) (.pointer (some ⟨s, 0, none⟩))).put (some 30) (.pointer (some ⟨s, 0, none⟩))).put (some 32) (.pointer (some ⟨s, 0, none⟩))).put (some 25) (.int .i64 n0)).put (some 27) (.int .i64 n1)).put (some 29) (.int .i64 n2)).put (some 31) (.int .i64 n3)).put (some 33) (.int .i64 n4)).put (some 34) (.agg (ctV ct).toArray)).put (some 7) (.pointer (some ⟨b7, 0, none⟩))) ∧ ScanAt w' s v5 B4 E4 ∧ Blk w' b7 (ctV ct) 23 ∧ Blk w' b4 (frV f (.slice fo fl fc)) 51 ∧ Blk w' b2 (ctV ct0) 23 ∧ Kept (fun k => k = s) wr w' ∧ wr.heap.size ≤ b7) ?rest ?first
  case first =>
    refine region_S 16 (fun U => U.cell? ⟨b4, 0, none⟩ = some (.int .i64 f.lsn) ∧ U.cell? ⟨b4, 1, none⟩ = some (.int .i64 f.ep)) Try.mixed ?_
    intro w0 hkw hheap
    have hSc_w0 := HSC.out.kept hkw
    have hBF_w0 := hkw.blk HBF.out (fun h => h)
    have hB2_w0 := hkw.blk HB2c.out (fun h => h)
    have hKK_w0 : Kept (fun k => k = s) wr w0 := hkw.mono (fun _ _ h => h.elim)
    have hS0 : (fun U : World => U.cell? ⟨b4, 0, none⟩ = some (.int .i64 f.lsn) ∧ U.cell? ⟨b4, 1, none⟩ = some (.int .i64 f.ep)) w0 := ⟨hBF_w0.cell 0, hBF_w0.cell 1⟩
    have hct := HCT.out
    clear HGC HL2 HK5 HL4 HflE HCT Hi51 Hz51
    refine tkS 0 20 (v := .pointer (some ⟨b4, 0, none⟩)) hS0 rfl rfl (by kernel_rfl) (by kernel_rfl) (by kernel_rfl) (by kernel_rfl) (wanted_none rfl) (fun _ _ _ h => absurd h.1 (by simp)) (fun U hU => r_f51 (b := b4) (k := 0) (by decide) (by simp [eval_put_ne, eval_put_eq, size_put, hts, e4, e6])) ?_
    refine tkS 1 21 (v := .int .i64 f.lsn) hS0 rfl rfl (by kernel_rfl) (by kernel_rfl) (by kernel_rfl) (by kernel_rfl) (wanted_none rfl) (fun _ _ _ h => absurd h.1 (by simp)) (fun U hU => r_ld3 (b := b4) (o := 0) (by simp [eval_put_ne, eval_put_eq, size_put, hts, e4, e6]) hU.1) ?_
    refine tkS 2 22 (v := .pointer (some ⟨b4, 1, none⟩)) hS0 rfl rfl (by kernel_rfl) (by kernel_rfl) (by kernel_rfl) (by kernel_rfl) (wanted_none rfl) (fun _ _ _ h => absurd h.1 (by simp)) (fun U hU => r_f51 (b := b4) (k := 1) (by decide) (by simp [eval_put_ne, eval_put_eq, size_put, hts, e4, e6])) ?_
    refine tkS 3 23 (v := .int .i64 f.ep) hS0 rfl rfl (by kernel_rfl) (by kernel_rfl) (by kernel_rfl) (by kernel_rfl) (wanted_none rfl) (fun _ _ _ h => absurd h.1 (by simp)) (fun U hU => r_ld3 (b := b4) (o := 1) (by simp [eval_put_ne, eval_put_eq, size_put, hts, e4, e6]) hU.2) ?_
    refine tkS 4 24 (v := .pointer (some ⟨s, 0, none⟩)) hS0 rfl rfl (by kernel_rfl) (by kernel_rfl) (by kernel_rfl) (by kernel_rfl) (wanted_none rfl) (fun _ _ _ h => absurd h.1 (by simp)) (fun U hU => r_move (by simp [eval_put_ne, eval_put_eq, size_put, hts, e4, e6])) ?_
    refine tkS 6 26 (v := .pointer (some ⟨s, 0, none⟩)) hS0 rfl rfl (by kernel_rfl) (by kernel_rfl) (by kernel_rfl) (by kernel_rfl) (wanted_none rfl) (fun _ _ _ h => absurd h.1 (by simp)) (fun U hU => r_move (by simp [eval_put_ne, eval_put_eq, size_put, hts, e4, e6])) ?_
    refine tkS 8 28 (v := .pointer (some ⟨s, 0, none⟩)) hS0 rfl rfl (by kernel_rfl) (by kernel_rfl) (by kernel_rfl) (by kernel_rfl) (wanted_none rfl) (fun _ _ _ h => absurd h.1 (by simp)) (fun U hU => r_move (by simp [eval_put_ne, eval_put_eq, size_put, hts, e4, e6])) ?_
    refine tkS 10 30 (v := .pointer (some ⟨s, 0, none⟩)) hS0 rfl rfl (by kernel_rfl) (by kernel_rfl) (by kernel_rfl) (by kernel_rfl) (wanted_none rfl) (fun _ _ _ h => absurd h.1 (by simp)) (fun U hU => r_move (by simp [eval_put_ne, eval_put_eq, size_put, hts, e4, e6])) ?_
    refine tkS 12 32 (v := .pointer (some ⟨s, 0, none⟩)) hS0 rfl rfl (by kernel_rfl) (by kernel_rfl) (by kernel_rfl) (by kernel_rfl) (wanted_none rfl) (fun _ _ _ h => absurd h.1 (by simp)) (fun U hU => r_move (by simp [eval_put_ne, eval_put_eq, size_put, hts, e4, e6])) ?_
    refine twoS 5 15 (by kernel_rfl) ?_ ?_
    · refine stepCS 5 25 rfl rfl (wanted_none rfl) (r_call2 Try.func23 (by kernel_rfl) rfl rfl (by simp [eval_put_ne, eval_put_eq, size_put, hts, e4, e6]) rfl) (snum_q hSc_w0 G0.out 1 HQ0.out) ?_
      rintro e u1 ⟨v1, rfl, hSc_u1, hk_u1⟩
      have hBF_u1 := hk_u1.blk hBF_w0 (fun e => by omega)
      have hB2_u1 := hk_u1.blk hB2_w0 (fun e => by omega)
      have hKK_u1 : Kept (fun k => k = s) wr u1 := hKK_w0.trans hk_u1 (fun _ _ h => h)
      refine ⟨_, rfl, ⟨(hBF_u1.cell 0), (hBF_u1.cell 1)⟩, ?_⟩
      refine twoS 7 15 (by kernel_rfl) ?_ ?_
      · refine stepCS 7 27 rfl rfl (wanted_none rfl) (r_call2 Try.func23 (by kernel_rfl) rfl rfl (by simp [eval_put_ne, eval_put_eq, size_put, hts, e4, e6]) rfl) (snum_q hSc_u1 G1.out 4 HQ1.out) ?_
        rintro e u2 ⟨v2, rfl, hSc_u2, hk_u2⟩
        have hBF_u2 := hk_u2.blk hBF_u1 (fun e => by omega)
        have hB2_u2 := hk_u2.blk hB2_u1 (fun e => by omega)
        have hKK_u2 : Kept (fun k => k = s) wr u2 := hKK_u1.trans hk_u2 (fun _ _ h => h)
        refine ⟨_, rfl, ⟨(hBF_u2.cell 0), (hBF_u2.cell 1)⟩, ?_⟩
        refine twoS 9 15 (by kernel_rfl) ?_ ?_
        · refine stepCS 9 29 rfl rfl (wanted_none rfl) (r_call2 Try.func23 (by kernel_rfl) rfl rfl (by simp [eval_put_ne, eval_put_eq, size_put, hts, e4, e6]) rfl) (snum_q hSc_u2 G2.out 8 HQ2.out) ?_
          rintro e u3 ⟨v3, rfl, hSc_u3, hk_u3⟩
          have hBF_u3 := hk_u3.blk hBF_u2 (fun e => by omega)
          have hB2_u3 := hk_u3.blk hB2_u2 (fun e => by omega)
          have hKK_u3 : Kept (fun k => k = s) wr u3 := hKK_u2.trans hk_u3 (fun _ _ h => h)
          refine ⟨_, rfl, ⟨(hBF_u3.cell 0), (hBF_u3.cell 1)⟩, ?_⟩
          refine twoS 11 15 (by kernel_rfl) ?_ ?_
          · refine stepCS 11 31 rfl rfl (wanted_none rfl) (r_call2 Try.func23 (by kernel_rfl) rfl rfl (by simp [eval_put_ne, eval_put_eq, size_put, hts, e4, e6]) rfl) (snum_q hSc_u3 G3.out 8 HQ3.out) ?_
            rintro e u4 ⟨v4, rfl, hSc_u4, hk_u4⟩
            have hBF_u4 := hk_u4.blk hBF_u3 (fun e => by omega)
            have hB2_u4 := hk_u4.blk hB2_u3 (fun e => by omega)
            have hKK_u4 : Kept (fun k => k = s) wr u4 := hKK_u3.trans hk_u4 (fun _ _ h => h)
            refine ⟨_, rfl, ⟨(hBF_u4.cell 0), (hBF_u4.cell 1)⟩, ?_⟩
            refine twoS 13 15 (by kernel_rfl) ?_ ?_
            · refine stepCS 13 33 rfl rfl (wanted_none rfl) (r_call2 Try.func23 (by kernel_rfl) rfl rfl (by simp [eval_put_ne, eval_put_eq, size_put, hts, e4, e6]) rfl) (snum_q hSc_u4 G4.out 8 HQ4.out) ?_
              rintro e u5 ⟨v5, rfl, hSc_u5, hk_u5⟩
              have hBF_u5 := hk_u5.blk hBF_u4 (fun e => by omega)
              have hB2_u5 := hk_u5.blk hB2_u4 (fun e => by omega)
              have hKK_u5 : Kept (fun k => k = s) wr u5 := hKK_u4.trans hk_u5 (fun _ _ h => h)
              refine ⟨_, rfl, ⟨(hBF_u5.cell 0), (hBF_u5.cell 1)⟩, ?_⟩
              refine tkS 14 34 (v := .agg (ctV ct).toArray) ⟨(hBF_u5.cell 0), (hBF_u5.cell 1)⟩ rfl rfl (by kernel_rfl) (by kernel_rfl) (by kernel_rfl) (by kernel_rfl) (wanted_none rfl) (fun _ _ _ h => absurd h.1 (by simp)) (fun U hU => r_build23 ct (by simp [eval_put_ne, eval_put_eq, size_put, hts, e4, e6, hct]) (by simp [eval_put_ne, eval_put_eq, size_put, hts, e4, e6, hct]) (by simp [eval_put_ne, eval_put_eq, size_put, hts, e4, e6, hct]) (by simp [eval_put_ne, eval_put_eq, size_put, hts, e4, e6, hct]) (by simp [eval_put_ne, eval_put_eq, size_put, hts, e4, e6, hct]) (by simp [eval_put_ne, eval_put_eq, size_put, hts, e4, e6, hct]) (by simp [eval_put_ne, eval_put_eq, size_put, hts, e4, e6, hct])) ?_
              refine oneS 15 (by kernel_rfl) ?_
              have hbn : Blk (u5.alloc (.cells (Value.agg #[.int .i64 0, .int .i64 0, .int .i64 0, .int .i64 0, .int .i64 0, .int .i64 0, .int .i64 0]).cells 23)) u5.heap.size (ctV ct0) 23 := Blk.newA u5 _ 23
              have hkn : Kept (fun _ => False) u5 (u5.alloc (.cells (Value.agg #[.int .i64 0, .int .i64 0, .int .i64 0, .int .i64 0, .int .i64 0, .int .i64 0, .int .i64 0]).cells 23)) := Kept.alloc _ _ _
              refine stepVS 15 7 (v := .pointer (some ⟨u5.heap.size, 0, none⟩)) rfl rfl (wanted_none rfl) (run_alloc_agg Hi23.out Hz23.out) (fun _ => ⟨(hkn.blk hBF_u5 (fun h => h)).cell 0, (hkn.blk hBF_u5 (fun h => h)).cell 1⟩) ?_
              have hl7 : wr.heap.size ≤ u5.heap.size := hKK_u5.size
              generalize u5.alloc (.cells (Value.agg #[.int .i64 0, .int .i64 0, .int .i64 0, .int .i64 0, .int .i64 0, .int .i64 0, .int .i64 0]).cells 23) = u6 at hbn hkn ⊢
              have hB7_u6 := hbn
              have hKK_u6 : Kept (fun k => k = s) wr u6 := hKK_u5.trans hkn (fun _ _ h => h.elim)
              have hSc_u6 := hSc_u5.kept hkn
              have hBF_u6 := hkn.blk hBF_u5 (fun h => h)
              have hB2_u6 := hkn.blk hB2_u5 (fun h => h)
              obtain ⟨g7, hg7⟩ : ∃ g, g = u5.heap.size := ⟨_, rfl⟩
              rw [← hg7] at hB7_u6 hl7 ⊢
              clear hbn hkn hg7
              refine lastS (by kernel_rfl) rfl (wanted_none rfl) (run_store_agg (b := g7) (off := 0) (L := ctV ct0) (M := ctV ct) Try.agg23 (by simp [eval_put_ne, eval_put_eq, size_put, hts, e4, e6]) (by simp [eval_put_ne, eval_put_eq, size_put, hts, e4, e6]) rfl (ctV_one ct) hB7_u6 (by simp [ctV])) (by kernel_rfl) ?_
              have hk7 : Kept (fun k => k = g7) u6 (u6.setRow g7 (ctV ct).toArray) := Kept.setRow (S := fun k => k = g7) _ _ _ rfl
              refine ⟨rfl, g7, v5, ?_, ?_, hB7_u6.setRow _, ?_, ?_, ?_, hl7⟩
              · rw [hfr.out]; simp only [put_lit, put_none, List.set_cons_succ, List.set_cons_zero]; rfl
              · exact ⟨hk7.blk hSc_u6.1 (fun e => by omega), hSc_u6.2.keptBut hk7 (fun q e => by subst e; exact ct_nobyte hB7_u6 _ rfl)⟩
              · exact hk7.blk hBF_u6 (hBF_u6.ne hB7_u6 (by decide))
              · exact hk7.blk hB2_u6 (fun e => by omega)
              · exact hKK_u6.trans hk7 (fun k hk e => by omega)
            · have hbn : Blk (u4.alloc (.cells (Value.agg #[.int .i64 0, .int .i64 0, .int .i64 0, .int .i64 0, .int .i64 0, .int .i64 0, .int .i64 0]).cells 23)) u4.heap.size (ctV ct0) 23 := Blk.newA u4 _ 23
              have hkn : Kept (fun _ => False) u4 (u4.alloc (.cells (Value.agg #[.int .i64 0, .int .i64 0, .int .i64 0, .int .i64 0, .int .i64 0, .int .i64 0, .int .i64 0]).cells 23)) := Kept.alloc _ _ _
              refine stepVS 15 7 (v := .pointer (some ⟨u4.heap.size, 0, none⟩)) rfl rfl (wanted_none rfl) (run_alloc_agg Hi23.out Hz23.out) (fun _ => ⟨(hkn.blk hBF_u4 (fun h => h)).cell 0, (hkn.blk hBF_u4 (fun h => h)).cell 1⟩) ?_
              have hl7 : wr.heap.size ≤ u4.heap.size := hKK_u4.size
              generalize u4.alloc (.cells (Value.agg #[.int .i64 0, .int .i64 0, .int .i64 0, .int .i64 0, .int .i64 0, .int .i64 0, .int .i64 0]).cells 23) = u7 at hbn hkn ⊢
              have hB7_u7 := hbn
              have hKK_u7 : Kept (fun k => k = s) wr u7 := hKK_u4.trans hkn (fun _ _ h => h.elim)
              have hSc_u7 := hSc_u4.kept hkn
              have hBF_u7 := hkn.blk hBF_u4 (fun h => h)
              have hB2_u7 := hkn.blk hB2_u4 (fun h => h)
              obtain ⟨g7, hg7⟩ : ∃ g, g = u4.heap.size := ⟨_, rfl⟩
              rw [← hg7] at hB7_u7 hl7 ⊢
              clear hbn hkn hg7
              refine oneS 13 (by kernel_rfl) ?_
              refine stepCS 13 33 rfl rfl (wanted_none rfl) (r_call2 Try.func23 (by kernel_rfl) rfl rfl (by simp [eval_put_ne, eval_put_eq, size_put, hts, e4, e6]) rfl) (snum_q hSc_u7 G4.out 8 HQ4.out) ?_
              rintro e u8 ⟨v5, rfl, hSc_u8, hk_u8⟩
              have hBF_u8 := hk_u8.blk hBF_u7 (fun e => by omega)
              have hB2_u8 := hk_u8.blk hB2_u7 (fun e => by omega)
              have hB7_u8 := hk_u8.blk hB7_u7 (fun e => by omega)
              have hKK_u8 : Kept (fun k => k = s) wr u8 := hKK_u7.trans hk_u8 (fun _ _ h => h)
              refine ⟨_, rfl, ⟨(hBF_u8.cell 0), (hBF_u8.cell 1)⟩, ?_⟩
              refine tkS 14 34 (v := .agg (ctV ct).toArray) ⟨(hBF_u8.cell 0), (hBF_u8.cell 1)⟩ rfl rfl (by kernel_rfl) (by kernel_rfl) (by kernel_rfl) (by kernel_rfl) (wanted_none rfl) (fun _ _ _ h => absurd h.1 (by simp)) (fun U hU => r_build23 ct (by simp [eval_put_ne, eval_put_eq, size_put, hts, e4, e6, hct]) (by simp [eval_put_ne, eval_put_eq, size_put, hts, e4, e6, hct]) (by simp [eval_put_ne, eval_put_eq, size_put, hts, e4, e6, hct]) (by simp [eval_put_ne, eval_put_eq, size_put, hts, e4, e6, hct]) (by simp [eval_put_ne, eval_put_eq, size_put, hts, e4, e6, hct]) (by simp [eval_put_ne, eval_put_eq, size_put, hts, e4, e6, hct]) (by simp [eval_put_ne, eval_put_eq, size_put, hts, e4, e6, hct])) ?_
              refine lastS (by kernel_rfl) rfl (wanted_none rfl) (run_store_agg (b := g7) (off := 0) (L := ctV ct0) (M := ctV ct) Try.agg23 (by simp [eval_put_ne, eval_put_eq, size_put, hts, e4, e6]) (by simp [eval_put_ne, eval_put_eq, size_put, hts, e4, e6]) rfl (ctV_one ct) hB7_u8 (by simp [ctV])) (by kernel_rfl) ?_
              have hk7 : Kept (fun k => k = g7) u8 (u8.setRow g7 (ctV ct).toArray) := Kept.setRow (S := fun k => k = g7) _ _ _ rfl
              refine ⟨rfl, g7, v5, ?_, ?_, hB7_u8.setRow _, ?_, ?_, ?_, hl7⟩
              · rw [hfr.out]; simp only [put_lit, put_none, List.set_cons_succ, List.set_cons_zero]; rfl
              · exact ⟨hk7.blk hSc_u8.1 (fun e => by omega), hSc_u8.2.keptBut hk7 (fun q e => by subst e; exact ct_nobyte hB7_u8 _ rfl)⟩
              · exact hk7.blk hBF_u8 (hBF_u8.ne hB7_u8 (by decide))
              · exact hk7.blk hB2_u8 (fun e => by omega)
              · exact hKK_u8.trans hk7 (fun k hk e => by omega)
          · have hbn : Blk (u3.alloc (.cells (Value.agg #[.int .i64 0, .int .i64 0, .int .i64 0, .int .i64 0, .int .i64 0, .int .i64 0, .int .i64 0]).cells 23)) u3.heap.size (ctV ct0) 23 := Blk.newA u3 _ 23
            have hkn : Kept (fun _ => False) u3 (u3.alloc (.cells (Value.agg #[.int .i64 0, .int .i64 0, .int .i64 0, .int .i64 0, .int .i64 0, .int .i64 0, .int .i64 0]).cells 23)) := Kept.alloc _ _ _
            refine stepVS 15 7 (v := .pointer (some ⟨u3.heap.size, 0, none⟩)) rfl rfl (wanted_none rfl) (run_alloc_agg Hi23.out Hz23.out) (fun _ => ⟨(hkn.blk hBF_u3 (fun h => h)).cell 0, (hkn.blk hBF_u3 (fun h => h)).cell 1⟩) ?_
            have hl7 : wr.heap.size ≤ u3.heap.size := hKK_u3.size
            generalize u3.alloc (.cells (Value.agg #[.int .i64 0, .int .i64 0, .int .i64 0, .int .i64 0, .int .i64 0, .int .i64 0, .int .i64 0]).cells 23) = u9 at hbn hkn ⊢
            have hB7_u9 := hbn
            have hKK_u9 : Kept (fun k => k = s) wr u9 := hKK_u3.trans hkn (fun _ _ h => h.elim)
            have hSc_u9 := hSc_u3.kept hkn
            have hBF_u9 := hkn.blk hBF_u3 (fun h => h)
            have hB2_u9 := hkn.blk hB2_u3 (fun h => h)
            obtain ⟨g7, hg7⟩ : ∃ g, g = u3.heap.size := ⟨_, rfl⟩
            rw [← hg7] at hB7_u9 hl7 ⊢
            clear hbn hkn hg7
            refine oneS 11 (by kernel_rfl) ?_
            refine stepCS 11 31 rfl rfl (wanted_none rfl) (r_call2 Try.func23 (by kernel_rfl) rfl rfl (by simp [eval_put_ne, eval_put_eq, size_put, hts, e4, e6]) rfl) (snum_q hSc_u9 G3.out 8 HQ3.out) ?_
            rintro e u10 ⟨v4, rfl, hSc_u10, hk_u10⟩
            have hBF_u10 := hk_u10.blk hBF_u9 (fun e => by omega)
            have hB2_u10 := hk_u10.blk hB2_u9 (fun e => by omega)
            have hB7_u10 := hk_u10.blk hB7_u9 (fun e => by omega)
            have hKK_u10 : Kept (fun k => k = s) wr u10 := hKK_u9.trans hk_u10 (fun _ _ h => h)
            refine ⟨_, rfl, ⟨(hBF_u10.cell 0), (hBF_u10.cell 1)⟩, ?_⟩
            refine oneS 13 (by kernel_rfl) ?_
            refine stepCS 13 33 rfl rfl (wanted_none rfl) (r_call2 Try.func23 (by kernel_rfl) rfl rfl (by simp [eval_put_ne, eval_put_eq, size_put, hts, e4, e6]) rfl) (snum_q hSc_u10 G4.out 8 HQ4.out) ?_
            rintro e u11 ⟨v5, rfl, hSc_u11, hk_u11⟩
            have hBF_u11 := hk_u11.blk hBF_u10 (fun e => by omega)
            have hB2_u11 := hk_u11.blk hB2_u10 (fun e => by omega)
            have hB7_u11 := hk_u11.blk hB7_u10 (fun e => by omega)
            have hKK_u11 : Kept (fun k => k = s) wr u11 := hKK_u10.trans hk_u11 (fun _ _ h => h)
            refine ⟨_, rfl, ⟨(hBF_u11.cell 0), (hBF_u11.cell 1)⟩, ?_⟩
            refine tkS 14 34 (v := .agg (ctV ct).toArray) ⟨(hBF_u11.cell 0), (hBF_u11.cell 1)⟩ rfl rfl (by kernel_rfl) (by kernel_rfl) (by kernel_rfl) (by kernel_rfl) (wanted_none rfl) (fun _ _ _ h => absurd h.1 (by simp)) (fun U hU => r_build23 ct (by simp [eval_put_ne, eval_put_eq, size_put, hts, e4, e6, hct]) (by simp [eval_put_ne, eval_put_eq, size_put, hts, e4, e6, hct]) (by simp [eval_put_ne, eval_put_eq, size_put, hts, e4, e6, hct]) (by simp [eval_put_ne, eval_put_eq, size_put, hts, e4, e6, hct]) (by simp [eval_put_ne, eval_put_eq, size_put, hts, e4, e6, hct]) (by simp [eval_put_ne, eval_put_eq, size_put, hts, e4, e6, hct]) (by simp [eval_put_ne, eval_put_eq, size_put, hts, e4, e6, hct])) ?_
            refine lastS (by kernel_rfl) rfl (wanted_none rfl) (run_store_agg (b := g7) (off := 0) (L := ctV ct0) (M := ctV ct) Try.agg23 (by simp [eval_put_ne, eval_put_eq, size_put, hts, e4, e6]) (by simp [eval_put_ne, eval_put_eq, size_put, hts, e4, e6]) rfl (ctV_one ct) hB7_u11 (by simp [ctV])) (by kernel_rfl) ?_
            have hk7 : Kept (fun k => k = g7) u11 (u11.setRow g7 (ctV ct).toArray) := Kept.setRow (S := fun k => k = g7) _ _ _ rfl
            refine ⟨rfl, g7, v5, ?_, ?_, hB7_u11.setRow _, ?_, ?_, ?_, hl7⟩
            · rw [hfr.out]; simp only [put_lit, put_none, List.set_cons_succ, List.set_cons_zero]; rfl
            · exact ⟨hk7.blk hSc_u11.1 (fun e => by omega), hSc_u11.2.keptBut hk7 (fun q e => by subst e; exact ct_nobyte hB7_u11 _ rfl)⟩
            · exact hk7.blk hBF_u11 (hBF_u11.ne hB7_u11 (by decide))
            · exact hk7.blk hB2_u11 (fun e => by omega)
            · exact hKK_u11.trans hk7 (fun k hk e => by omega)
        · have hbn : Blk (u2.alloc (.cells (Value.agg #[.int .i64 0, .int .i64 0, .int .i64 0, .int .i64 0, .int .i64 0, .int .i64 0, .int .i64 0]).cells 23)) u2.heap.size (ctV ct0) 23 := Blk.newA u2 _ 23
          have hkn : Kept (fun _ => False) u2 (u2.alloc (.cells (Value.agg #[.int .i64 0, .int .i64 0, .int .i64 0, .int .i64 0, .int .i64 0, .int .i64 0, .int .i64 0]).cells 23)) := Kept.alloc _ _ _
          refine stepVS 15 7 (v := .pointer (some ⟨u2.heap.size, 0, none⟩)) rfl rfl (wanted_none rfl) (run_alloc_agg Hi23.out Hz23.out) (fun _ => ⟨(hkn.blk hBF_u2 (fun h => h)).cell 0, (hkn.blk hBF_u2 (fun h => h)).cell 1⟩) ?_
          have hl7 : wr.heap.size ≤ u2.heap.size := hKK_u2.size
          generalize u2.alloc (.cells (Value.agg #[.int .i64 0, .int .i64 0, .int .i64 0, .int .i64 0, .int .i64 0, .int .i64 0, .int .i64 0]).cells 23) = u12 at hbn hkn ⊢
          have hB7_u12 := hbn
          have hKK_u12 : Kept (fun k => k = s) wr u12 := hKK_u2.trans hkn (fun _ _ h => h.elim)
          have hSc_u12 := hSc_u2.kept hkn
          have hBF_u12 := hkn.blk hBF_u2 (fun h => h)
          have hB2_u12 := hkn.blk hB2_u2 (fun h => h)
          obtain ⟨g7, hg7⟩ : ∃ g, g = u2.heap.size := ⟨_, rfl⟩
          rw [← hg7] at hB7_u12 hl7 ⊢
          clear hbn hkn hg7
          refine oneS 9 (by kernel_rfl) ?_
          refine stepCS 9 29 rfl rfl (wanted_none rfl) (r_call2 Try.func23 (by kernel_rfl) rfl rfl (by simp [eval_put_ne, eval_put_eq, size_put, hts, e4, e6]) rfl) (snum_q hSc_u12 G2.out 8 HQ2.out) ?_
          rintro e u13 ⟨v3, rfl, hSc_u13, hk_u13⟩
          have hBF_u13 := hk_u13.blk hBF_u12 (fun e => by omega)
          have hB2_u13 := hk_u13.blk hB2_u12 (fun e => by omega)
          have hB7_u13 := hk_u13.blk hB7_u12 (fun e => by omega)
          have hKK_u13 : Kept (fun k => k = s) wr u13 := hKK_u12.trans hk_u13 (fun _ _ h => h)
          refine ⟨_, rfl, ⟨(hBF_u13.cell 0), (hBF_u13.cell 1)⟩, ?_⟩
          refine oneS 11 (by kernel_rfl) ?_
          refine stepCS 11 31 rfl rfl (wanted_none rfl) (r_call2 Try.func23 (by kernel_rfl) rfl rfl (by simp [eval_put_ne, eval_put_eq, size_put, hts, e4, e6]) rfl) (snum_q hSc_u13 G3.out 8 HQ3.out) ?_
          rintro e u14 ⟨v4, rfl, hSc_u14, hk_u14⟩
          have hBF_u14 := hk_u14.blk hBF_u13 (fun e => by omega)
          have hB2_u14 := hk_u14.blk hB2_u13 (fun e => by omega)
          have hB7_u14 := hk_u14.blk hB7_u13 (fun e => by omega)
          have hKK_u14 : Kept (fun k => k = s) wr u14 := hKK_u13.trans hk_u14 (fun _ _ h => h)
          refine ⟨_, rfl, ⟨(hBF_u14.cell 0), (hBF_u14.cell 1)⟩, ?_⟩
          refine oneS 13 (by kernel_rfl) ?_
          refine stepCS 13 33 rfl rfl (wanted_none rfl) (r_call2 Try.func23 (by kernel_rfl) rfl rfl (by simp [eval_put_ne, eval_put_eq, size_put, hts, e4, e6]) rfl) (snum_q hSc_u14 G4.out 8 HQ4.out) ?_
          rintro e u15 ⟨v5, rfl, hSc_u15, hk_u15⟩
          have hBF_u15 := hk_u15.blk hBF_u14 (fun e => by omega)
          have hB2_u15 := hk_u15.blk hB2_u14 (fun e => by omega)
          have hB7_u15 := hk_u15.blk hB7_u14 (fun e => by omega)
          have hKK_u15 : Kept (fun k => k = s) wr u15 := hKK_u14.trans hk_u15 (fun _ _ h => h)
          refine ⟨_, rfl, ⟨(hBF_u15.cell 0), (hBF_u15.cell 1)⟩, ?_⟩
          refine tkS 14 34 (v := .agg (ctV ct).toArray) ⟨(hBF_u15.cell 0), (hBF_u15.cell 1)⟩ rfl rfl (by kernel_rfl) (by kernel_rfl) (by kernel_rfl) (by kernel_rfl) (wanted_none rfl) (fun _ _ _ h => absurd h.1 (by simp)) (fun U hU => r_build23 ct (by simp [eval_put_ne, eval_put_eq, size_put, hts, e4, e6, hct]) (by simp [eval_put_ne, eval_put_eq, size_put, hts, e4, e6, hct]) (by simp [eval_put_ne, eval_put_eq, size_put, hts, e4, e6, hct]) (by simp [eval_put_ne, eval_put_eq, size_put, hts, e4, e6, hct]) (by simp [eval_put_ne, eval_put_eq, size_put, hts, e4, e6, hct]) (by simp [eval_put_ne, eval_put_eq, size_put, hts, e4, e6, hct]) (by simp [eval_put_ne, eval_put_eq, size_put, hts, e4, e6, hct])) ?_
          refine lastS (by kernel_rfl) rfl (wanted_none rfl) (run_store_agg (b := g7) (off := 0) (L := ctV ct0) (M := ctV ct) Try.agg23 (by simp [eval_put_ne, eval_put_eq, size_put, hts, e4, e6]) (by simp [eval_put_ne, eval_put_eq, size_put, hts, e4, e6]) rfl (ctV_one ct) hB7_u15 (by simp [ctV])) (by kernel_rfl) ?_
          have hk7 : Kept (fun k => k = g7) u15 (u15.setRow g7 (ctV ct).toArray) := Kept.setRow (S := fun k => k = g7) _ _ _ rfl
          refine ⟨rfl, g7, v5, ?_, ?_, hB7_u15.setRow _, ?_, ?_, ?_, hl7⟩
          · rw [hfr.out]; simp only [put_lit, put_none, List.set_cons_succ, List.set_cons_zero]; rfl
          · exact ⟨hk7.blk hSc_u15.1 (fun e => by omega), hSc_u15.2.keptBut hk7 (fun q e => by subst e; exact ct_nobyte hB7_u15 _ rfl)⟩
          · exact hk7.blk hBF_u15 (hBF_u15.ne hB7_u15 (by decide))
          · exact hk7.blk hB2_u15 (fun e => by omega)
          · exact hKK_u15.trans hk7 (fun k hk e => by omega)
      · have hbn : Blk (u1.alloc (.cells (Value.agg #[.int .i64 0, .int .i64 0, .int .i64 0, .int .i64 0, .int .i64 0, .int .i64 0, .int .i64 0]).cells 23)) u1.heap.size (ctV ct0) 23 := Blk.newA u1 _ 23
        have hkn : Kept (fun _ => False) u1 (u1.alloc (.cells (Value.agg #[.int .i64 0, .int .i64 0, .int .i64 0, .int .i64 0, .int .i64 0, .int .i64 0, .int .i64 0]).cells 23)) := Kept.alloc _ _ _
        refine stepVS 15 7 (v := .pointer (some ⟨u1.heap.size, 0, none⟩)) rfl rfl (wanted_none rfl) (run_alloc_agg Hi23.out Hz23.out) (fun _ => ⟨(hkn.blk hBF_u1 (fun h => h)).cell 0, (hkn.blk hBF_u1 (fun h => h)).cell 1⟩) ?_
        have hl7 : wr.heap.size ≤ u1.heap.size := hKK_u1.size
        generalize u1.alloc (.cells (Value.agg #[.int .i64 0, .int .i64 0, .int .i64 0, .int .i64 0, .int .i64 0, .int .i64 0, .int .i64 0]).cells 23) = u16 at hbn hkn ⊢
        have hB7_u16 := hbn
        have hKK_u16 : Kept (fun k => k = s) wr u16 := hKK_u1.trans hkn (fun _ _ h => h.elim)
        have hSc_u16 := hSc_u1.kept hkn
        have hBF_u16 := hkn.blk hBF_u1 (fun h => h)
        have hB2_u16 := hkn.blk hB2_u1 (fun h => h)
        obtain ⟨g7, hg7⟩ : ∃ g, g = u1.heap.size := ⟨_, rfl⟩
        rw [← hg7] at hB7_u16 hl7 ⊢
        clear hbn hkn hg7
        refine oneS 7 (by kernel_rfl) ?_
        refine stepCS 7 27 rfl rfl (wanted_none rfl) (r_call2 Try.func23 (by kernel_rfl) rfl rfl (by simp [eval_put_ne, eval_put_eq, size_put, hts, e4, e6]) rfl) (snum_q hSc_u16 G1.out 4 HQ1.out) ?_
        rintro e u17 ⟨v2, rfl, hSc_u17, hk_u17⟩
        have hBF_u17 := hk_u17.blk hBF_u16 (fun e => by omega)
        have hB2_u17 := hk_u17.blk hB2_u16 (fun e => by omega)
        have hB7_u17 := hk_u17.blk hB7_u16 (fun e => by omega)
        have hKK_u17 : Kept (fun k => k = s) wr u17 := hKK_u16.trans hk_u17 (fun _ _ h => h)
        refine ⟨_, rfl, ⟨(hBF_u17.cell 0), (hBF_u17.cell 1)⟩, ?_⟩
        refine oneS 9 (by kernel_rfl) ?_
        refine stepCS 9 29 rfl rfl (wanted_none rfl) (r_call2 Try.func23 (by kernel_rfl) rfl rfl (by simp [eval_put_ne, eval_put_eq, size_put, hts, e4, e6]) rfl) (snum_q hSc_u17 G2.out 8 HQ2.out) ?_
        rintro e u18 ⟨v3, rfl, hSc_u18, hk_u18⟩
        have hBF_u18 := hk_u18.blk hBF_u17 (fun e => by omega)
        have hB2_u18 := hk_u18.blk hB2_u17 (fun e => by omega)
        have hB7_u18 := hk_u18.blk hB7_u17 (fun e => by omega)
        have hKK_u18 : Kept (fun k => k = s) wr u18 := hKK_u17.trans hk_u18 (fun _ _ h => h)
        refine ⟨_, rfl, ⟨(hBF_u18.cell 0), (hBF_u18.cell 1)⟩, ?_⟩
        refine oneS 11 (by kernel_rfl) ?_
        refine stepCS 11 31 rfl rfl (wanted_none rfl) (r_call2 Try.func23 (by kernel_rfl) rfl rfl (by simp [eval_put_ne, eval_put_eq, size_put, hts, e4, e6]) rfl) (snum_q hSc_u18 G3.out 8 HQ3.out) ?_
        rintro e u19 ⟨v4, rfl, hSc_u19, hk_u19⟩
        have hBF_u19 := hk_u19.blk hBF_u18 (fun e => by omega)
        have hB2_u19 := hk_u19.blk hB2_u18 (fun e => by omega)
        have hB7_u19 := hk_u19.blk hB7_u18 (fun e => by omega)
        have hKK_u19 : Kept (fun k => k = s) wr u19 := hKK_u18.trans hk_u19 (fun _ _ h => h)
        refine ⟨_, rfl, ⟨(hBF_u19.cell 0), (hBF_u19.cell 1)⟩, ?_⟩
        refine oneS 13 (by kernel_rfl) ?_
        refine stepCS 13 33 rfl rfl (wanted_none rfl) (r_call2 Try.func23 (by kernel_rfl) rfl rfl (by simp [eval_put_ne, eval_put_eq, size_put, hts, e4, e6]) rfl) (snum_q hSc_u19 G4.out 8 HQ4.out) ?_
        rintro e u20 ⟨v5, rfl, hSc_u20, hk_u20⟩
        have hBF_u20 := hk_u20.blk hBF_u19 (fun e => by omega)
        have hB2_u20 := hk_u20.blk hB2_u19 (fun e => by omega)
        have hB7_u20 := hk_u20.blk hB7_u19 (fun e => by omega)
        have hKK_u20 : Kept (fun k => k = s) wr u20 := hKK_u19.trans hk_u20 (fun _ _ h => h)
        refine ⟨_, rfl, ⟨(hBF_u20.cell 0), (hBF_u20.cell 1)⟩, ?_⟩
        refine tkS 14 34 (v := .agg (ctV ct).toArray) ⟨(hBF_u20.cell 0), (hBF_u20.cell 1)⟩ rfl rfl (by kernel_rfl) (by kernel_rfl) (by kernel_rfl) (by kernel_rfl) (wanted_none rfl) (fun _ _ _ h => absurd h.1 (by simp)) (fun U hU => r_build23 ct (by simp [eval_put_ne, eval_put_eq, size_put, hts, e4, e6, hct]) (by simp [eval_put_ne, eval_put_eq, size_put, hts, e4, e6, hct]) (by simp [eval_put_ne, eval_put_eq, size_put, hts, e4, e6, hct]) (by simp [eval_put_ne, eval_put_eq, size_put, hts, e4, e6, hct]) (by simp [eval_put_ne, eval_put_eq, size_put, hts, e4, e6, hct]) (by simp [eval_put_ne, eval_put_eq, size_put, hts, e4, e6, hct]) (by simp [eval_put_ne, eval_put_eq, size_put, hts, e4, e6, hct])) ?_
        refine lastS (by kernel_rfl) rfl (wanted_none rfl) (run_store_agg (b := g7) (off := 0) (L := ctV ct0) (M := ctV ct) Try.agg23 (by simp [eval_put_ne, eval_put_eq, size_put, hts, e4, e6]) (by simp [eval_put_ne, eval_put_eq, size_put, hts, e4, e6]) rfl (ctV_one ct) hB7_u20 (by simp [ctV])) (by kernel_rfl) ?_
        have hk7 : Kept (fun k => k = g7) u20 (u20.setRow g7 (ctV ct).toArray) := Kept.setRow (S := fun k => k = g7) _ _ _ rfl
        refine ⟨rfl, g7, v5, ?_, ?_, hB7_u20.setRow _, ?_, ?_, ?_, hl7⟩
        · rw [hfr.out]; simp only [put_lit, put_none, List.set_cons_succ, List.set_cons_zero]; rfl
        · exact ⟨hk7.blk hSc_u20.1 (fun e => by omega), hSc_u20.2.keptBut hk7 (fun q e => by subst e; exact ct_nobyte hB7_u20 _ rfl)⟩
        · exact hk7.blk hBF_u20 (hBF_u20.ne hB7_u20 (by decide))
        · exact hk7.blk hB2_u20 (fun e => by omega)
        · exact hKK_u20.trans hk7 (fun k hk e => by omega)
    · have hbn : Blk (w0.alloc (.cells (Value.agg #[.int .i64 0, .int .i64 0, .int .i64 0, .int .i64 0, .int .i64 0, .int .i64 0, .int .i64 0]).cells 23)) w0.heap.size (ctV ct0) 23 := Blk.newA w0 _ 23
      have hkn : Kept (fun _ => False) w0 (w0.alloc (.cells (Value.agg #[.int .i64 0, .int .i64 0, .int .i64 0, .int .i64 0, .int .i64 0, .int .i64 0, .int .i64 0]).cells 23)) := Kept.alloc _ _ _
      refine stepVS 15 7 (v := .pointer (some ⟨w0.heap.size, 0, none⟩)) rfl rfl (wanted_none rfl) (run_alloc_agg Hi23.out Hz23.out) (fun _ => ⟨(hkn.blk hBF_w0 (fun h => h)).cell 0, (hkn.blk hBF_w0 (fun h => h)).cell 1⟩) ?_
      have hl7 : wr.heap.size ≤ w0.heap.size := hKK_w0.size
      generalize w0.alloc (.cells (Value.agg #[.int .i64 0, .int .i64 0, .int .i64 0, .int .i64 0, .int .i64 0, .int .i64 0, .int .i64 0]).cells 23) = u21 at hbn hkn ⊢
      have hB7_u21 := hbn
      have hKK_u21 : Kept (fun k => k = s) wr u21 := hKK_w0.trans hkn (fun _ _ h => h.elim)
      have hSc_u21 := hSc_w0.kept hkn
      have hBF_u21 := hkn.blk hBF_w0 (fun h => h)
      have hB2_u21 := hkn.blk hB2_w0 (fun h => h)
      obtain ⟨g7, hg7⟩ : ∃ g, g = w0.heap.size := ⟨_, rfl⟩
      rw [← hg7] at hB7_u21 hl7 ⊢
      clear hbn hkn hg7
      refine oneS 5 (by kernel_rfl) ?_
      refine stepCS 5 25 rfl rfl (wanted_none rfl) (r_call2 Try.func23 (by kernel_rfl) rfl rfl (by simp [eval_put_ne, eval_put_eq, size_put, hts, e4, e6]) rfl) (snum_q hSc_u21 G0.out 1 HQ0.out) ?_
      rintro e u22 ⟨v1, rfl, hSc_u22, hk_u22⟩
      have hBF_u22 := hk_u22.blk hBF_u21 (fun e => by omega)
      have hB2_u22 := hk_u22.blk hB2_u21 (fun e => by omega)
      have hB7_u22 := hk_u22.blk hB7_u21 (fun e => by omega)
      have hKK_u22 : Kept (fun k => k = s) wr u22 := hKK_u21.trans hk_u22 (fun _ _ h => h)
      refine ⟨_, rfl, ⟨(hBF_u22.cell 0), (hBF_u22.cell 1)⟩, ?_⟩
      refine oneS 7 (by kernel_rfl) ?_
      refine stepCS 7 27 rfl rfl (wanted_none rfl) (r_call2 Try.func23 (by kernel_rfl) rfl rfl (by simp [eval_put_ne, eval_put_eq, size_put, hts, e4, e6]) rfl) (snum_q hSc_u22 G1.out 4 HQ1.out) ?_
      rintro e u23 ⟨v2, rfl, hSc_u23, hk_u23⟩
      have hBF_u23 := hk_u23.blk hBF_u22 (fun e => by omega)
      have hB2_u23 := hk_u23.blk hB2_u22 (fun e => by omega)
      have hB7_u23 := hk_u23.blk hB7_u22 (fun e => by omega)
      have hKK_u23 : Kept (fun k => k = s) wr u23 := hKK_u22.trans hk_u23 (fun _ _ h => h)
      refine ⟨_, rfl, ⟨(hBF_u23.cell 0), (hBF_u23.cell 1)⟩, ?_⟩
      refine oneS 9 (by kernel_rfl) ?_
      refine stepCS 9 29 rfl rfl (wanted_none rfl) (r_call2 Try.func23 (by kernel_rfl) rfl rfl (by simp [eval_put_ne, eval_put_eq, size_put, hts, e4, e6]) rfl) (snum_q hSc_u23 G2.out 8 HQ2.out) ?_
      rintro e u24 ⟨v3, rfl, hSc_u24, hk_u24⟩
      have hBF_u24 := hk_u24.blk hBF_u23 (fun e => by omega)
      have hB2_u24 := hk_u24.blk hB2_u23 (fun e => by omega)
      have hB7_u24 := hk_u24.blk hB7_u23 (fun e => by omega)
      have hKK_u24 : Kept (fun k => k = s) wr u24 := hKK_u23.trans hk_u24 (fun _ _ h => h)
      refine ⟨_, rfl, ⟨(hBF_u24.cell 0), (hBF_u24.cell 1)⟩, ?_⟩
      refine oneS 11 (by kernel_rfl) ?_
      refine stepCS 11 31 rfl rfl (wanted_none rfl) (r_call2 Try.func23 (by kernel_rfl) rfl rfl (by simp [eval_put_ne, eval_put_eq, size_put, hts, e4, e6]) rfl) (snum_q hSc_u24 G3.out 8 HQ3.out) ?_
      rintro e u25 ⟨v4, rfl, hSc_u25, hk_u25⟩
      have hBF_u25 := hk_u25.blk hBF_u24 (fun e => by omega)
      have hB2_u25 := hk_u25.blk hB2_u24 (fun e => by omega)
      have hB7_u25 := hk_u25.blk hB7_u24 (fun e => by omega)
      have hKK_u25 : Kept (fun k => k = s) wr u25 := hKK_u24.trans hk_u25 (fun _ _ h => h)
      refine ⟨_, rfl, ⟨(hBF_u25.cell 0), (hBF_u25.cell 1)⟩, ?_⟩
      refine oneS 13 (by kernel_rfl) ?_
      refine stepCS 13 33 rfl rfl (wanted_none rfl) (r_call2 Try.func23 (by kernel_rfl) rfl rfl (by simp [eval_put_ne, eval_put_eq, size_put, hts, e4, e6]) rfl) (snum_q hSc_u25 G4.out 8 HQ4.out) ?_
      rintro e u26 ⟨v5, rfl, hSc_u26, hk_u26⟩
      have hBF_u26 := hk_u26.blk hBF_u25 (fun e => by omega)
      have hB2_u26 := hk_u26.blk hB2_u25 (fun e => by omega)
      have hB7_u26 := hk_u26.blk hB7_u25 (fun e => by omega)
      have hKK_u26 : Kept (fun k => k = s) wr u26 := hKK_u25.trans hk_u26 (fun _ _ h => h)
      refine ⟨_, rfl, ⟨(hBF_u26.cell 0), (hBF_u26.cell 1)⟩, ?_⟩
      refine tkS 14 34 (v := .agg (ctV ct).toArray) ⟨(hBF_u26.cell 0), (hBF_u26.cell 1)⟩ rfl rfl (by kernel_rfl) (by kernel_rfl) (by kernel_rfl) (by kernel_rfl) (wanted_none rfl) (fun _ _ _ h => absurd h.1 (by simp)) (fun U hU => r_build23 ct (by simp [eval_put_ne, eval_put_eq, size_put, hts, e4, e6, hct]) (by simp [eval_put_ne, eval_put_eq, size_put, hts, e4, e6, hct]) (by simp [eval_put_ne, eval_put_eq, size_put, hts, e4, e6, hct]) (by simp [eval_put_ne, eval_put_eq, size_put, hts, e4, e6, hct]) (by simp [eval_put_ne, eval_put_eq, size_put, hts, e4, e6, hct]) (by simp [eval_put_ne, eval_put_eq, size_put, hts, e4, e6, hct]) (by simp [eval_put_ne, eval_put_eq, size_put, hts, e4, e6, hct])) ?_
      refine lastS (by kernel_rfl) rfl (wanted_none rfl) (run_store_agg (b := g7) (off := 0) (L := ctV ct0) (M := ctV ct) Try.agg23 (by simp [eval_put_ne, eval_put_eq, size_put, hts, e4, e6]) (by simp [eval_put_ne, eval_put_eq, size_put, hts, e4, e6]) rfl (ctV_one ct) hB7_u26 (by simp [ctV])) (by kernel_rfl) ?_
      have hk7 : Kept (fun k => k = g7) u26 (u26.setRow g7 (ctV ct).toArray) := Kept.setRow (S := fun k => k = g7) _ _ _ rfl
      refine ⟨rfl, g7, v5, ?_, ?_, hB7_u26.setRow _, ?_, ?_, ?_, hl7⟩
      · rw [hfr.out]; simp only [put_lit, put_none, List.set_cons_succ, List.set_cons_zero]; rfl
      · exact ⟨hk7.blk hSc_u26.1 (fun e => by omega), hSc_u26.2.keptBut hk7 (fun q e => by subst e; exact ct_nobyte hB7_u26 _ rfl)⟩
      · exact hk7.blk hBF_u26 (hBF_u26.ne hB7_u26 (by decide))
      · exact hk7.blk hB2_u26 (fun e => by omega)
      · exact hKK_u26.trans hk7 (fun k hk e => by omega)
  case rest =>
    rintro e a' w6 ⟨rfl, b7, v5, rfl, hsc, hb7, hbf, hb2, hk6, hl7⟩
    rw [hfr.out]
    clear hfr e4 e6 hts fr
    simp only [put_lit, put_none, List.set_cons_succ, List.set_cons_zero]
    have HSC6 := hide hsc
    have HB76 := hide hb7
    have HB26 := hide hb2
    have HK6 := hide (HK5.out.trans hk6 (fun k hk e => by omega))
    have c3 : w6.cell? ⟨b4, 3, none⟩ = some (.int .i64 f.ct) := hbf.cell 3
    have hb27 : b2 ≠ b7 := by omega
    clear hsc hb7 hbf hb2 hk6 HSC HBF HB2c HK5
    have HE := hide (err_at w6 s v5 B4 E4 HSC6.out)
    have HLf := hide (left_at w6 s v5 B4 E4 HSC6.out)
    obtain ⟨ln, hln⟩ : ∃ n, n = B4.length := ⟨_, rfl⟩
    rw [← hln] at HLf
    have HLn := hide hln
    clear hln HSC6
    by_cases h1 : f.ct = 1
    case neg =>
      go_wp2_with (first
        | ((with_reducible refine wpList_run rfl r_build23_0 ?_))
        | ((with_reducible refine aw_store (x := .tmp 2) (M := ctV ct0) Try.agg23 rfl rfl rfl (ctV_one ct0) HB26.out (by simp [ctV]) ?_); intro w8 hw8 hk8 hz8; rw [put_whole _ _ (by simp [ctV])] at hw8)
        | fail)
      refine bodyPost_ret (results_cell2 (t := 2) (u := 3) (ty := 23) rfl Try.agg23 rfl hw8 rfl) rfl ?_
      rw [show getC b = (ct0, 20) from by rw [HGC.out, if_neg (by simp), if_pos (.inl h1)]]
      exact ⟨rfl, HK6.out.trans hk8 (fun i hi h => by have := HL2.out; omega)⟩
    case pos =>
    rw [h1] at c3
    go_wp2_with fail
    refine HE.out.mono ?_
    rintro e w7 ⟨rfl, rfl⟩
    by_cases h2 : E4 = 0
    case neg =>
      go_wp2_with (first
        | ((with_reducible refine wpList_run rfl r_build23_0 ?_))
        | ((with_reducible refine aw_store (x := .tmp 2) (M := ctV ct0) Try.agg23 rfl rfl rfl (ctV_one ct0) HB26.out (by simp [ctV]) ?_); intro w8 hw8 hk8 hz8; rw [put_whole _ _ (by simp [ctV])] at hw8)
        | fail)
      refine bodyPost_ret (results_cell2 (t := 2) (u := 3) (ty := 23) rfl Try.agg23 rfl hw8 rfl) rfl ?_
      rw [show getC b = (ct0, 20) from by rw [HGC.out, if_neg (by simp), if_pos (.inr (.inl h2))]]
      exact ⟨rfl, HK6.out.trans hk8 (fun i hi h => by have := HL2.out; omega)⟩
    case pos =>
    subst h2
    go_wp2_with fail
    refine HLf.out.mono ?_
    rintro e w7 ⟨rfl, rfl⟩
    by_cases h3 : ln = 0
    case neg =>
      have h3i : ¬ ((ln : Int) = 0) := by omega
      go_wp2_with (first
        | ((with_reducible refine wpList_run rfl r_build23_0 ?_))
        | ((with_reducible refine aw_store (x := .tmp 2) (M := ctV ct0) Try.agg23 rfl rfl rfl (ctV_one ct0) HB26.out (by simp [ctV]) ?_); intro w8 hw8 hk8 hz8; rw [put_whole _ _ (by simp [ctV])] at hw8)
        | fail)
      refine bodyPost_ret (results_cell2 (t := 2) (u := 3) (ty := 23) rfl Try.agg23 rfl hw8 rfl) rfl ?_
      rw [show getC b = (ct0, 20) from by rw [HGC.out, if_neg (by simp), if_pos (.inr (.inr (.inl (by rw [← HLn.out]; exact h3))))]]
      exact ⟨rfl, HK6.out.trans hk8 (fun i hi h => by have := HL2.out; omega)⟩
    case pos =>
    subst h3
    obtain ⟨rb, hrb⟩ : ∃ x, rightC ct = x := ⟨_, rfl⟩
    have HRB := hide hrb
    clear hrb
    go_wp2_with (first
      | (with_reducible refine aw_loadG (t := 23) (M := ctV ct) rfl Try.agg23 rfl HB76.out (by simp [ctV]) (by simp [ctV]) ?_)
      | fail)
    refine (ctright_at w6 ct rb HRB.out).mono ?_
    rintro e w7 ⟨rfl, hk7⟩
    have HB27 := hide (hk7.blk HB26.out (fun h => h))
    have HB77 := hide (hk7.blk HB76.out (fun h => h))
    have HK7 := hide (HK6.out.trans hk7 (fun _ _ h => h))
    clear hk7 HB26 HB76 HK6
    cases rb with
    | false =>
      go_wp2_with (first
        | ((with_reducible refine wpList_run rfl r_build23_0 ?_))
        | ((with_reducible refine aw_store (x := .tmp 2) (M := ctV ct0) Try.agg23 rfl rfl rfl (ctV_one ct0) HB27.out (by simp [ctV]) ?_); intro w8 hw8 hk8 hz8; rw [put_whole _ _ (by simp [ctV])] at hw8)
        | fail)
      refine bodyPost_ret (results_cell2 (t := 2) (u := 3) (ty := 23) rfl Try.agg23 rfl hw8 rfl) rfl ?_
      rw [show getC b = (ct0, 20) from by rw [HGC.out, if_neg (by simp), if_pos (.inr (.inr (.inr HRB.out)))]]
      exact ⟨rfl, HK7.out.trans hk8 (fun i hi h => by have := HL2.out; omega)⟩
    | true =>
      go_wp2_with (first
        | (with_reducible refine aw_load (x := .tmp 7) (M := ctV ct) Try.agg23 rfl HB77.out (by simp [ctV]) (by simp [ctV]) ?_)
        | ((with_reducible refine aw_store (x := .tmp 2) (M := ctV ct) Try.agg23 rfl rfl rfl (ctV_one ct) HB27.out (by simp [ctV]) ?_); intro w8 hw8 hk8 hz8; rw [put_whole _ _ (by simp [ctV])] at hw8)
        | fail)
      refine bodyPost_ret (results_cell2 (t := 2) (u := 3) (ty := 23) rfl Try.agg23 rfl hw8 rfl) rfl ?_
      rw [show getC b = (ct, 0) from by rw [HGC.out, if_neg (by simp), if_neg (by simp [h1, HRB.out, ← HLn.out])]]
      exact ⟨rfl, HK7.out.trans hk8 (fun i hi h => by have := HL2.out; omega)⟩
end Go.Proofs.Ytapoagpkjngjpaa
