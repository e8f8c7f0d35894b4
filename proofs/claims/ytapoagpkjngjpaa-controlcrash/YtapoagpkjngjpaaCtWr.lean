/-
  Write, of package control.
-/
import Derived.Test.YtapoagpkjngjpaaCtGet
import Derived.Test.YtapoagpkjngjpaaDWr
namespace Go.Proofs.Ytapoagpkjngjpaa
open Go.RowKit Go.Shelf
set_option linter.unusedSimpArgs false
set_option linter.unusedVariables false
set_option maxRecDepth 100000

section
variable {ρ : Operand → Value} {w : World} {dst : Option Tmp} {ty : TypeId} {pos : String} {aft : Array Edge} {gd : Option (Nat × Bool)} {x y z : Operand}
theorem r_ld23 {b : Nat} {c : Ct} (hx : ρ x = .pointer (some ⟨b, 0, none⟩)) (hb : Blk w b (ctV c) 23) : (execOp ρ ⟨dst, .load 23 x, ty, pos, aft, gd⟩).run Try.prog w = .ok (.value (ctAgg c)) w := by
  have h := run_load_agg (P := Try.prog) (ρ := ρ) (w := w) (dst := dst) (t := 23) (ty := ty) (x := x) (pos := pos) (aft := aft) (gd := gd) (off := 0) Try.agg23 hx hb (by simp [ctV])
  simpa [ctV, ctAgg] using h
theorem r_ctadd {i j : Nat} (hx : ρ x = .int .i64 i) (hy : ρ y = .int .i64 j) (h : i + j ≤ 9223372036854775807) : (execOp ρ ⟨dst, .binOp .add 3 x y 3, ty, pos, aft, gd⟩).run Try.prog w = .ok (.value (.int .i64 ((i + j : Nat) : Int))) w := by
  have hw : IntKind.i64.wrap ((i : Int) + j) = (i : Int) + j := by rw [IntKind.wrap_i64]; omega
  go_simp
  try simp
end
/-- A control's block is none of a device's. -/
theorem ctdev_ne {w : World} {b n : Nat} {s : D.DS} {F : Nat → Prop} {k : Nat} {c : Ct} (h : D.DevAt w b n s F) (hb : Blk w k (ctV c) 23) : ¬ F k := by
  obtain ⟨bs, wv, hd, hf⟩ := h
  intro hk
  rcases (hf k).1 hk with rfl | rfl | e
  · exact absurd rfl (hd.hb.ne hb (by decide))
  · exact absurd rfl (hd.hs.ne hb (by decide))
  · rcases hd.hw.2 with ⟨rfl, _⟩ | ⟨g, cap, cur, rfl, _, hg, _⟩
    · simp [Value.ownBlock] at e
    · simp [Value.ownBlock] at e
      have hgb : Blk w g cur.toList 101 := by unfold Blk; simpa using hg
      subst e
      exact absurd rfl (hgb.ne hb (by decide))
set_option maxHeartbeats 2000000 in
theorem ctwrite_spent (w : World) (b : Nat) (p : Int) (c : Ct) (hg : 2305843009213693952 ≤ c.gen) :
    Calls Try.prog 14 #[.pointer (some ⟨b, 0, none⟩), .int .i64 p, ctAgg c] w fun e w' => e = .returned (.tuple #[ctAgg ct0, .int .i64 33]) ∧ Kept (fun _ => False) w w' := by
  obtain ⟨i23, hi23, hz23, hs23, hb23⟩ := info_parts Try.info23
  have Hi23 := hide hi23
  have Hz23 := hide hz23
  have hg2 : ¬ c.gen < 2305843009213693952 := by omega
  clear hi23 hz23 hs23 hb23
  unfold ctAgg
  go_enter Try.func14, Try.ntmps14
  go_wp2_with (first
    | ((with_reducible refine aw_box (t := 23) (v := .agg #[.int .i64 c.gen, .int .i64 c.ep, .int .i64 c.ar, .int .i64 c.tl, .int .i64 c.nm, .int .i64 c.re, .int .i64 c.lo]) rfl ?_); intro w1 hb1 hk1 hz1; have Yz1 := hide hz1; clear hz1; have c0 : w1.cell? ⟨w.heap.size, 0, none⟩ = some (.int .i64 c.gen) := hb1.cell 0)
    | ((with_reducible refine aw_alloc (dst := some 6) Hi23.out Hz23.out ?_); intro w2 hb2 hk2 hz2; have Yz2 := hide hz2; clear hz2; have d0 : w2.cell? ⟨w.heap.size, 0, none⟩ = some (.int .i64 c.gen) := (hk2.blk hb1 (fun h => h)).cell 0; clear c0)
    | ((with_reducible refine wpList_run rfl r_build23_0 ?_))
    | ((with_reducible refine aw_store (x := .tmp 6) (M := ctV ct0) Try.agg23 rfl rfl rfl (ctV_one ct0) hb2 (by simp [Value.cells]) ?_); intro w3 hw3 hk3 hz3; rw [put_whole _ _ (by simp [Value.cells, ctV])] at hw3)
    | fail)
  refine bodyPost_ret (results_cell2 (t := 6) (u := 7) (ty := 23) rfl Try.agg23 rfl hw3 rfl) rfl ?_
  exact ⟨rfl, (hk1.trans hk2 (fun _ _ h => h)).trans hk3 (fun i hi h => by have := hk1.size; omega)⟩

theorem ct_gen (c : Ct) (g : Int) : (ctV c).set 0 (.int .i64 g) = ctV { c with gen := g } := rfl
set_option maxHeartbeats 4000000 in
theorem ctwrite_at (w : World) (b n : Nat) (s : D.DS) (F : Nat → Prop) (h : D.DevAt w b n s F) (p : Nat) (hp : p + 2 ≤ n) (c nx : Ct) (hg : c.gen < 2305843009213693952) (hlo : -9223372036854775808 ≤ c.gen) (hnx : { c with gen := c.gen + 1 } = nx) (r : Bool) (hr : rightC nx = r) (q : Nat) (hq : nx.gen % 2 = q)
    (hc : s.calls < 4611686018427387900) (hlen : s.ws.length + 1 < 1000000000) (e1 e2 : Int) (he1 : wErr s = e1) (s1 : D.DS) (hs1 : wDev s (p + q) 1 (putC nx) = s1) (he2 : s1.errF = e2) :
    Calls Try.prog 14 #[.pointer (some ⟨b, 0, none⟩), .int .i64 p, ctAgg c] w fun e w' =>
      (r = false → e = .returned (.tuple #[ctAgg ct0, .int .i64 2]) ∧ Kept (fun _ => False) w w') ∧
      (r = true → e1 ≠ 0 → e = .returned (.tuple #[ctAgg ct0, .int .i64 e1]) ∧ D.DevStep w w' b n s1 F) ∧
      (r = true → e1 = 0 → e2 ≠ 0 → e = .returned (.tuple #[ctAgg ct0, .int .i64 e2]) ∧ D.DevStep w w' b n s1.flushed F) ∧
      (r = true → e1 = 0 → e2 = 0 → e = .returned (.tuple #[ctAgg nx, .int .i64 0]) ∧ D.DevStep w w' b n s1.flushed F) := by
  obtain ⟨i23, hi23, hz23, hs23, hb23⟩ := info_parts Try.info23
  have Hi23 := hide hi23
  have Hz23 := hide hz23
  obtain ⟨i3, hi3, hz3, hs3, hb3⟩ := info_parts Try.info3
  have Hi3 := hide hi3
  have Hs3 := hide hs3
  have hn2 : n ≤ 4096 := by obtain ⟨bs, wv, hd, _⟩ := h; exact hd.n2
  have hq1 : q ≤ 1 := by omega
  have hg2 : c.gen < 2305843009213693952 := hg
  have hwr : IntKind.i64.wrap (c.gen + 1) = c.gen + 1 := by rw [IntKind.wrap_i64]; omega
  have HD0 := hide h
  have HFlt := hide h.lt
  have Hpq : Hid (p + q + 1 ≤ n ∧ n ≤ 4096) := hide (by omega)
  have HNx := hide hnx
  have HI : Hid (r = true → 1 ≤ nx.gen) := hide (fun e => ((rightC_iff nx).1 (hr.trans e)).1)
  have HR := hide hr
  have HQ := hide hq
  have HCa : Hid (s.calls < 4611686018427387904) := hide (by omega)
  have HCb : Hid (s1.calls < 4611686018427387904) := hide (by rw [← hs1]; have := wDev_calls s (p + q) 1 (putC nx); omega)
  have HWl := hide hlen
  have HE1 := hide he1
  have HE2 := hide he2
  have HS1 := hide hs1
  have HSz : Hid (∀ w, D.DevAt w b n s F → Calls Try.prog 32 #[.pointer (some ⟨b, 0, none⟩)] w fun e w' => e = .returned (.int .i64 n) ∧ w = w') := hide (fun w h => D.size_at w b n s F h)
  have HWi : Hid (∀ w, Calls Try.prog 28 #[.int .i64 p, .int .i64 0, .int .i64 n] w fun e w' => e = .returned (.bool true) ∧ w = w') := hide (fun w => ctwithin_at w p 0 n true (by rw [decide_eq_true_eq]; omega))
  clear hi23 hz23 hs23 hb23 hi3 hz3 hs3 hb3 hn2 hq1 h hnx hr hq hc hlen he1 he2 hs1 hp hg hlo
  unfold ctAgg
  go_enter Try.func14, Try.ntmps14
  go_wp2_with (first
    | ((with_reducible refine aw_box (t := 23) (v := .agg #[.int .i64 c.gen, .int .i64 c.ep, .int .i64 c.ar, .int .i64 c.tl, .int .i64 c.nm, .int .i64 c.re, .int .i64 c.lo]) rfl ?_); intro w1 hb1 hk1 hz1; have Yz1 := hide hz1; clear hz1; have c0 : w1.cell? ⟨w.heap.size, 0, none⟩ = some (.int .i64 c.gen) := hb1.cell 0)
    | ((with_reducible refine aw_alloc (dst := some 6) Hi23.out Hz23.out ?_); intro w2 hb2 hk2 hz2; have Yz2 := hide hz2; clear hz2; have d0 : w2.cell? ⟨w.heap.size, 0, none⟩ = some (.int .i64 c.gen) := (hk2.blk hb1 (fun h => h)).cell 0; clear c0)
    | (with_reducible refine stop_store 3 ?_)
    | fail)
  refine hide ?_
  have hb1' : Blk w2 w.heap.size (ctV c) 23 := hk2.blk hb1 (fun h => h)
  refine aw_store1 (v := .int .i64 (c.gen + 1)) Hi3.out Hs3.out rfl rfl rfl rfl hb1' (by simp [ctV]) ?_
  intro w3 hb3 hk3 hz3
  rw [ct_gen, HNx.out] at hb3
  obtain ⟨cb, hcb⟩ : ∃ x, x = w.heap.size := ⟨_, rfl⟩
  have hsz1 : w1.heap.size = w.heap.size + 1 := Yz1.out
  obtain ⟨rb, hrb⟩ : ∃ x, x = w1.heap.size := ⟨_, rfl⟩
  rw [← hcb] at hb3 ⊢
  rw [← hrb] at hb2 ⊢
  have HC3 := hide hb3
  have HRb3 : Hid (Blk w3 rb (ctV ct0) 23) := hide (hk3.blk hb2 (by omega))
  have HK3 : Hid (Kept (fun _ => False) w w3) := hide ((hk1.trans hk2 (fun _ _ h => h)).trans hk3 (fun i hi h => by omega))
  have HFc : Hid (¬ F cb) := hide (fun h => by have := HFlt.out cb h; omega)
  have HFr : Hid (¬ F rb) := hide (fun h => by have := HFlt.out rb h; omega)
  have HLc : Hid (w.heap.size ≤ cb) := hide (by omega)
  have HLr : Hid (w.heap.size ≤ rb) := hide (by omega)
  have HNe : Hid (cb ≠ rb) := hide (by omega)
  clear hb1 hb2 hb3 hk1 hk2 hk3 hz3 hb1' d0 hsz1 hcb hrb Yz1 Yz2 hwr hg2
  go_wp2_with (first
    | (with_reducible refine aw_load (x := .tmp 5) (M := ctV nx) Try.agg23 rfl HC3.out (by simp [ctV]) (by simp [ctV]) ?_)
    | fail)
  refine (ctright_at w3 nx r HR.out).mono ?_
  rintro e w4 ⟨rfl, hk4⟩
  have HC := hide (hk4.blk HC3.out (fun h => h))
  have HRb := hide (hk4.blk HRb3.out (fun h => h))
  have HK := hide (HK3.out.trans hk4 (fun _ _ h => h))
  have HD := hide (HD0.out.kept HK.out (fun _ _ h => h))
  clear hk4 HC3 HRb3 HK3 HD0
  cases r with
  | false =>
    go_wp2_with (first
      | ((with_reducible refine wpList_run rfl r_build23_0 ?_))
      | ((with_reducible refine aw_store (x := .tmp 6) (M := ctV ct0) Try.agg23 rfl rfl rfl (ctV_one ct0) HRb.out (by simp [ctV]) ?_); intro w5 hw5 hk5 hz5; rw [put_whole _ _ (by simp [ctV])] at hw5)
      | fail)
    refine bodyPost_ret (results_cell2 (t := 6) (u := 7) (ty := 23) rfl Try.agg23 rfl hw5 rfl) rfl ?_
    exact ⟨rfl, HK.out.trans hk5 (fun i hi h => by have := HLr.out; omega)⟩
  | true =>
  have HI2 : Hid (1 ≤ nx.gen) := hide (HI.out (by simp))
  clear HI
  go_wp2_with fail
  refine (HSz.out w4 HD.out).mono ?_
  rintro e w5 ⟨rfl, rfl⟩
  go_wp2_with fail
  refine (HWi.out w4).mono ?_
  rintro e w5 ⟨rfl, rfl⟩
  go_wp2_with fail
  refine hold_frame (p := fun fr => Code.wp Try.prog _ _ fr _) ?_
  intro fr hfr
  have e0 : fr.eval (.tmp 0) = .pointer (some ⟨b, 0, none⟩) := by rw [hfr.out]; rfl
  have e1 : fr.eval (.tmp 1) = .int .i64 p := by rw [hfr.out]; rfl
  have e5 : fr.eval (.tmp 5) = .pointer (some ⟨cb, 0, none⟩) := by rw [hfr.out]; rfl
  have hts : fr.tmps.size = 51 := by rw [hfr.out]; rfl
  refine region_S0 99 Try.mixed ?_
  intro w0 hkw hheap
  have HCw := hkw.blk HC.out (fun h => h)
  have HDw := HD.out.kept hkw (fun _ _ h => h)
  have HK0 := hide (HK.out.trans hkw (fun _ _ h => h))
  have hS0 : Kept F w0 w0 := Kept.refl F w0
  refine ⟨Kept F w0, ?_⟩
  refine tkS 0 32 (v := .pointer (some ⟨b, 0, none⟩)) hS0 rfl rfl (by kernel_rfl) (by kernel_rfl) (by kernel_rfl) (by kernel_rfl) (wanted_none rfl) (fun _ _ _ h => h) (fun U hU => r_move (by simp [eval_put_ne, eval_put_eq, size_put, hts, e0])) ?_
  refine tkS 1 33 (v := .int .i64 p) hS0 rfl rfl (by kernel_rfl) (by kernel_rfl) (by kernel_rfl) (by kernel_rfl) (wanted_none rfl) (fun _ _ _ h => h) (fun U hU => r_move (by simp [eval_put_ne, eval_put_eq, size_put, hts, e1])) ?_
  refine tkS 2 34 (v := ctAgg nx) hS0 rfl rfl (by kernel_rfl) (by kernel_rfl) (by kernel_rfl) (by kernel_rfl) (wanted_none rfl) (fun _ _ _ h => h) (fun U hU => r_ld23 (b := cb) (by simp [eval_put_ne, eval_put_eq, size_put, hts, e5]) (((hS0).trans hU (fun _ _ h => h)).blk HCw HFc.out)) ?_
  refine tkS 5 37 (v := ctAgg nx) hS0 rfl rfl (by kernel_rfl) (by kernel_rfl) (by kernel_rfl) (by kernel_rfl) (wanted_none rfl) (fun _ _ _ h => h) (fun U hU => r_ld23 (b := cb) (by simp [eval_put_ne, eval_put_eq, size_put, hts, e5]) (((hS0).trans hU (fun _ _ h => h)).blk HCw HFc.out)) ?_
  refine oneCS 3 35 (by kernel_rfl) rfl rfl (wanted_none rfl) (r_call1 Try.func34 (by kernel_rfl) rfl rfl (by simp [eval_put_ne, eval_put_eq, size_put, hts])) (ctslot_at w0 nx q (by have h9 : 1 ≤ nx.gen := HI2.out; omega) HQ.out) ?_
  rintro e v1 ⟨rfl, k1⟩
  have hS1 : Kept F w0 v1 := k1.mono (fun _ _ h => h.elim)
  refine ⟨_, rfl, hS1, ?_⟩
  refine tkS 4 36 (v := .int .i64 ((p + q : Nat) : Int)) hS1 rfl rfl (by kernel_rfl) (by kernel_rfl) (by kernel_rfl) (by kernel_rfl) (wanted_none rfl) (fun _ _ _ h => h) (fun U hU => r_ctadd (by simp [eval_put_ne, eval_put_eq, size_put, hts]) (by simp [eval_put_ne, eval_put_eq, size_put, hts]) (by have := Hpq.out; omega)) ?_
  refine oneCS 6 38 (by kernel_rfl) rfl rfl (wanted_none rfl) (r_call1 Try.func12 (by kernel_rfl) rfl rfl (by simp [eval_put_ne, eval_put_eq, size_put, hts])) (ctput_at v1 nx HR.out) ?_
  rintro e v2 ⟨g, rfl, hb2, hg2, k2⟩
  have kk := k1.trans k2 (fun _ _ h => h)
  have hS2 : Kept F w0 v2 := kk.mono (fun _ _ h => h.elim)
  refine ⟨_, rfl, hS2, ?_⟩
  refine oneCS 7 39 (by kernel_rfl) rfl rfl (wanted_none rfl) (r_call3 Try.func33 (by kernel_rfl) rfl rfl (by simp [eval_put_ne, eval_put_eq, size_put, hts]) (by simp [eval_put_ne, eval_put_eq, size_put, hts]) (by simp [eval_put_ne, eval_put_eq, size_put, hts])) (dwrite_at v2 b n s F (HDw.kept kk (fun _ _ h => h)) (p + q) 1 64 _ (putC nx) (putC_length nx) (putC_lt nx) (by decide) (fun _ => ⟨g, 0, rfl, by have := hb2.cells 0 64; rw [List.drop_zero, List.take_of_length_le (by rw [BV_length, putC_length]; exact Nat.le_refl _)] at this; exact this, fun hf => by have := HDw.lt g hf; have := k1.size; omega⟩) (by decide) (by have := Hpq.out; omega) HCa.out HWl.out) ?_
  rintro e v3 ⟨rfl, hst⟩
  have hS3 : Kept F w0 v3 := hS2.trans hst.1 (fun _ _ h => h)
  refine ⟨_, rfl, hS3, ?_⟩
  refine tkS 8 8 (v := .int .i64 (wErr s)) hS3 rfl rfl (by kernel_rfl) (by kernel_rfl) (by kernel_rfl) (by kernel_rfl) (wanted_none rfl) (fun _ _ _ h => h) (fun U hU => r_assign (by simp [eval_put_ne, eval_put_eq, size_put, hts])) ?_
  refine doneS (by kernel_rfl) ?_
  rw [hfr.out]
  clear hfr e0 e1 e5 hts
  simp only [put_lit, put_none, List.set_cons_succ, List.set_cons_zero]

  have HSt := hide (DevStep.pre (HK0.out.trans kk (fun _ _ h => h)) hst)
  have HRb3 := hide (hS3.blk (hkw.blk HRb.out (fun h => h)) HFr.out)
  have HC3 := hide (hS3.blk HCw HFc.out)
  rw [HS1.out] at HSt
  rw [HE1.out]
  have HLw : Hid (w.heap.size ≤ v3.heap.size) := hide (HSt.out.1.size)
  clear hS0 hS1 hS2 hS3 hb2 hg2 k1 k2 kk hst hkw hheap HCw HDw HK0 HC HRb HK HD HSz HWi HS1
  by_cases h1 : e1 = 0
  case neg =>
    go_wp2_with (first
      | ((with_reducible refine wpList_run rfl r_build23_0 ?_))
      | ((with_reducible refine aw_store (x := .tmp 6) (M := ctV ct0) Try.agg23 rfl rfl rfl (ctV_one ct0) HRb3.out (by simp [ctV]) ?_); intro w5 hw5 hk5 hz5; rw [put_whole _ _ (by simp [ctV])] at hw5)
      | fail)
    refine bodyPost_ret (results_cell2 (t := 6) (u := 7) (ty := 23) rfl Try.agg23 rfl hw5 rfl) rfl ?_
    refine ⟨rfl, ?_⟩
    exact DevStep.postS HSt.out hk5 (fun k e => ⟨by have := HLr.out; omega, fun F' hd' hf => by subst e; exact ctdev_ne hd' HRb3.out hf⟩)
  case pos =>
  subst h1
  obtain ⟨F1, HD1, HF1⟩ := HSt.out.2
  have HD1 := hide HD1
  have HF1 := hide HF1
  go_wp2_with fail
  refine (D.flush_at v3 b n s1 F1 HD1.out HCb.out).mono ?_
  rintro e w6 ⟨rfl, hst6⟩
  rw [HE2.out]
  have hne : ∀ k, w.heap.size ≤ k → k = cb ∨ k = rb → ¬ F1 k := by
    intro k _ hk hf
    rcases hk with rfl | rfl
    · exact ctdev_ne HD1.out HC3.out hf
    · exact ctdev_ne HD1.out HRb3.out hf
  have HRb6 := hide (hst6.1.blk HRb3.out (hne rb HLr.out (.inr rfl)))
  have HC6 := hide (hst6.1.blk HC3.out (hne cb HLc.out (.inl rfl)))
  have HSt6 : Hid (D.DevStep w w6 b n s1.flushed F) := hide ⟨HSt.out.1.trans hst6.1 (fun i hi hf => (HF1.out i hf).elim id (fun h => by omega)), by
    obtain ⟨F2, h2, h3⟩ := hst6.2
    exact ⟨F2, h2, fun k hk => (h3 k hk).elim (fun hf => HF1.out k hf) (fun h => .inr (Nat.le_trans HLw.out h))⟩⟩
  clear hst6 hne HD1 HF1 HRb3 HC3 HSt
  by_cases h2 : e2 = 0
  case neg =>
    go_wp2_with (first
      | ((with_reducible refine wpList_run rfl r_build23_0 ?_))
      | ((with_reducible refine aw_store (x := .tmp 6) (M := ctV ct0) Try.agg23 rfl rfl rfl (ctV_one ct0) HRb6.out (by simp [ctV]) ?_); intro w7 hw7 hk7 hz7; rw [put_whole _ _ (by simp [ctV])] at hw7)
      | fail)
    refine bodyPost_ret (results_cell2 (t := 6) (u := 7) (ty := 23) rfl Try.agg23 rfl hw7 rfl) rfl ?_
    refine ⟨rfl, ?_⟩
    exact DevStep.postS HSt6.out hk7 (fun k e => ⟨by have := HLr.out; omega, fun F' hd' hf => by subst e; exact ctdev_ne hd' HRb6.out hf⟩)
  case pos =>
  subst h2
  go_wp2_with (first
    | (with_reducible refine aw_load (x := .tmp 5) (M := ctV nx) Try.agg23 rfl HC6.out (by simp [ctV]) (by simp [ctV]) ?_)
    | ((with_reducible refine aw_store (x := .tmp 6) (M := ctV nx) Try.agg23 rfl rfl rfl (ctV_one nx) HRb6.out (by simp [ctV]) ?_); intro w7 hw7 hk7 hz7; rw [put_whole _ _ (by simp [ctV])] at hw7)
    | fail)
  refine bodyPost_ret (results_cell2 (t := 6) (u := 7) (ty := 23) rfl Try.agg23 rfl hw7 rfl) rfl ?_
  refine ⟨rfl, ?_⟩
  exact DevStep.postS HSt6.out hk7 (fun k e => ⟨by have := HLr.out; omega, fun F' hd' hf => by subst e; exact ctdev_ne hd' HRb6.out hf⟩)
end Go.Proofs.Ytapoagpkjngjpaa
