/-
  read: the frame that a sector without its sum has.
-/
import Derived.Test.YtapoagpkjngjpaaFrPut
namespace Go.Proofs.Ytapoagpkjngjpaa
open Go.RowKit Go.Shelf
set_option linter.unusedSimpArgs false
set_option linter.unusedVariables false
set_option maxRecDepth 100000

section
variable {P : Program} {ops : Array Oper} {Q : Exit → Act → World → Prop} {md : Region.Mode} {S : World → Prop} {m fuel : Nat} {listed : Array Bool} {a : Act} {w w' : World}
/-- The only one that may come up stores. -/
theorem oneKS (i : Nat) {oi : Oper} (hr : Region.ready md ops listed = [i]) (hi : ops[i]? = some oi) (hd : oi.dst = none) (hw : Region.wanted oi (yielded ops a.tmps) = true) (hrun : (execOp a.eval oi).run P w = .ok .skip w') (hS : S w')
    (h : wpAnyM P md ops Q S m fuel (listed.setIfInBounds i true) a w') : wpAnyM P md ops Q S m (fuel + 1) listed a w := by
  refine oneS i hr ?_
  unfold wpOp
  simp only [hi, hw, if_true]
  refine .inl ?_
  unfold Oper.wp
  rw [hrun]
  refine ⟨fun _ => hS, ?_⟩
  rw [hd]
  exact h
end
theorem snum_q {w : World} {s : Nat} {v : Value} {B : List Nat} {E : Int} (h : ScanAt w s v B E) (hl : B.length ≤ 90000000) (m : Int) {n : Int} {B' : List Nat} {E' : Int} (hq : scanNum B E m = (n, B', E')) :
    Calls Try.prog 23 #[.pointer (some ⟨s, 0, none⟩), .int .i64 m] w fun e w' => ∃ v', e = .returned (.int .i64 n) ∧ ScanAt w' s v' B' E' ∧ Kept (fun k => k = s) w w' := by
  have := snum_at w s v B E h hl m
  rw [hq] at this
  exact this
theorem stext_q {w : World} {s : Nat} {v : Value} {B : List Nat} {E : Int} (h : ScanAt w s v B E) (hl : B.length ≤ 90000000) (m : Int) {T : List Nat} {B' : List Nat} {E' : Int} (hq : scanText B E m = (T, B', E')) :
    Calls Try.prog 66 #[.pointer (some ⟨s, 0, none⟩), .int .i64 m] w fun e w' => ∃ vr v', e = .returned vr ∧ Src w' vr T ∧ ScanAt w' s v' B' E' ∧ Kept (fun k => k = s) w w' := by
  have := stext_at w s v B E h hl m
  rw [hq] at this
  exact this
theorem built24 (a b c d : Int) (bo : Option Addr) (n k : Nat) : Try.prog.built 51 [(0, .int .i64 a), (1, .int .i64 b), (2, .int .i64 c), (3, .int .i64 d), (4, .slice bo n k)] = some #[.int .i64 a, .int .i64 b, .int .i64 c, .int .i64 d, .slice bo n k] := by rfl
theorem r_build24 {ρ : Operand → Value} {w : World} {dst : Option Tmp} {ty : TypeId} {pos : String} {aft : Array Edge} {gd : Option (Nat × Bool)} {x0 x1 x2 x3 x4 : Operand} {a b c d : Int} {bo : Option Addr} {n k : Nat} (h0 : ρ x0 = .int .i64 a) (h1 : ρ x1 = .int .i64 b) (h2 : ρ x2 = .int .i64 c) (h3 : ρ x3 = .int .i64 d) (h4 : ρ x4 = .slice bo n k) :
    (execOp ρ ⟨dst, .build 51 #[(0, x0), (1, x1), (2, x2), (3, x3), (4, x4)], ty, pos, aft, gd⟩).run Try.prog w = .ok (.value (.agg [.int .i64 a, .int .i64 b, .int .i64 c, .int .i64 d, .slice bo n k].toArray)) w := by
  have hr := run_build (P := Try.prog) w 51 #[(0, .int .i64 a), (1, .int .i64 b), (2, .int .i64 c), (3, .int .i64 d), (4, .slice bo n k)] _ (by simpa using built24 a b c d bo n k)
  simp [execOp, h0, h1, h2, h3, h4, hr]
theorem run_load24 {ρ : Operand → Value} {w : World} {dst : Option Tmp} {ty : TypeId} {x : Operand} {pos : String} {aft : Array Edge} {gd : Option (Nat × Bool)} {b : Nat} {f : Fr} {vb : Value} (hx : ρ x = .pointer (some ⟨b, 0, none⟩)) (hb : Blk w b (frV f vb) 51) :
    (execOp ρ ⟨dst, .load 51 x, ty, pos, aft, gd⟩).run Try.prog w = .ok (.value (frAgg f vb)) w := by
  have h := run_load_agg (P := Try.prog) (ρ := ρ) (w := w) (dst := dst) (t := 51) (ty := ty) (x := x) (pos := pos) (aft := aft) (gd := gd) (off := 0) Try.agg51 hx hb (by simp [frV])
  simpa [frV, frAgg] using h
theorem frV_one (f : Fr) (bo : Option Addr) (n k : Nat) : ∀ v ∈ frV f (.slice bo n k), v.oneCell' = true := by
  intro v hv
  simp [frV] at hv
  rcases hv with rfl | rfl | rfl | rfl | rfl <;> rfl
theorem run_store24 {ρ : Operand → Value} {w : World} {dst : Option Tmp} {ty : TypeId} {x y : Operand} {pos : String} {aft : Array Edge} {gd : Option (Nat × Bool)} {b : Nat} {f : Fr} {bo : Option Addr} {n k : Nat} {L : List Value} (hx : ρ x = .pointer (some ⟨b, 0, none⟩)) (hy : ρ y = frAgg f (.slice bo n k)) (hb : Blk w b L 51) (hL : L.length = 5) :
    (execOp ρ ⟨dst, .store 51 x y, ty, pos, aft, gd⟩).run Try.prog w = .ok .skip (w.setRow b (frV f (.slice bo n k)).toArray) := by
  have h := run_store_agg (P := Try.prog) (ρ := ρ) (w := w) (dst := dst) (t := 51) (ty := ty) (x := x) (y := y) (pos := pos) (aft := aft) (gd := gd) (off := 0) (M := frV f (.slice bo n k)) Try.agg51 hx hy rfl (frV_one f bo n k) hb (by rw [hL]; decide)
  have e : List.take 0 L ++ frV f (.slice bo n k) ++ List.drop (0 + 5) L = frV f (.slice bo n k) := by rw [List.take_zero, List.nil_append, List.drop_of_length_le (by omega), List.append_nil]
  rw [e] at h
  exact h
theorem results_cell2 {P : Program} {fn : Func} {t u : Tmp} {ty : TypeId} {n b : Nat} {L : List Value} {e : TypeId} {tmps : Array Value} {w : World} (h : fn.results = #[.cell t ty, .tmp u]) (ht : aggSize P ty n) (hx : tmps.getD t undef = .pointer (some ⟨b, 0, none⟩)) (hb : Blk w b L e) (hl : L.length = n) :
    (results fn tmps).run P w = .ok (.tuple #[.agg L.toArray, tmps.getD u undef]) w := by
  have hv := run_loadVar (P := P) ht hb hl
  simp only [Array.getD_eq_getD_getElem?] at hx
  simp [results, h, hx, hv, asAddr]
theorem nobyte24 {w : World} {r : Nat} {f : Fr} {bo : Option Addr} {n k : Nat} (h : Blk w r (frV f (.slice bo n k)) 51) : ∀ q, q = r → ∀ i m, w.cell? ⟨q, i, none⟩ ≠ some (.int .u8 m) := by
  rintro q rfl i m hc
  rw [h.cell] at hc
  match i with
  | 0 => simp [frV] at hc
  | 1 => simp [frV] at hc
  | 2 => simp [frV] at hc
  | 3 => simp [frV] at hc
  | 4 => simp [frV] at hc
  | i + 5 => simp [frV] at hc

set_option maxRecDepth 100000 in
set_option maxHeartbeats 4000000 in
theorem read_at (w : World) (v : Value) (b : List Nat) (hs : Src w v b) (hl : b.length ≤ 90000000) :
    Calls Try.prog 44 #[v] w fun e w' => ∃ vb, e = .returned (.tuple #[frAgg (readN b).1 vb, .bool (readN b).2]) ∧ Src w' vb (readN b).1.B ∧ Kept (fun _ => False) w w' := by
  obtain ⟨i24, hi24, hz24, hs24, hb24⟩ := info_parts Try.info51
  have Hi := hide hi24
  have Hz := hide hz24
  obtain ⟨n0, B0, E0, q0⟩ : ∃ n B E, scanNum b 0 2 = (n, B, E) := ⟨_, _, _, rfl⟩
  obtain ⟨n1, B1, E1, q1⟩ : ∃ n B E, scanNum B0 E0 8 = (n, B, E) := ⟨_, _, _, rfl⟩
  obtain ⟨n2, B2, E2, q2⟩ : ∃ n B E, scanNum B1 E1 4 = (n, B, E) := ⟨_, _, _, rfl⟩
  obtain ⟨n3, B3, E3, q3⟩ : ∃ n B E, scanNum B2 E2 2 = (n, B, E) := ⟨_, _, _, rfl⟩
  obtain ⟨n4, B4, E4, q4⟩ : ∃ n B E, scanNum B3 E3 2 = (n, B, E) := ⟨_, _, _, rfl⟩
  obtain ⟨T, B5, E5, q5⟩ : ∃ n B E, scanText B4 E4 40 = (n, B, E) := ⟨_, _, _, rfl⟩
  have hrd : readN b = (⟨n1, n2, n3, n4, T⟩, noughtsN B5 E5 && rightN ⟨n1, n2, n3, n4, T⟩) := by
    unfold readN
    rw [q0]; simp only []
    rw [q1]; simp only []
    rw [q2]; simp only []
    rw [q3]; simp only []
    rw [q4]; simp only []
    rw [q5]
  have k0 : B0.length ≤ b.length := by have := scanNum_len b 0 2; rw [q0] at this; exact this
  have k1 : B1.length ≤ B0.length := by have := scanNum_len B0 E0 8; rw [q1] at this; exact this
  have k2 : B2.length ≤ B1.length := by have := scanNum_len B1 E1 4; rw [q2] at this; exact this
  have k3 : B3.length ≤ B2.length := by have := scanNum_len B2 E2 2; rw [q3] at this; exact this
  have k4 : B4.length ≤ B3.length := by have := scanNum_len B3 E3 2; rw [q4] at this; exact this
  have k5 : B5.length ≤ B4.length := by have := scanText_len B4 E4 40; rw [q5] at this; exact this
  have g0 : B0.length ≤ 90000000 := by omega
  have g1 : B1.length ≤ 90000000 := by omega
  have g2 : B2.length ≤ 90000000 := by omega
  have g3 : B3.length ≤ 90000000 := by omega
  have g4 : B4.length ≤ 90000000 := by omega
  have g5 : B5.length ≤ 90000000 := by omega
  rw [hrd]
  obtain ⟨f, hf⟩ : ∃ f : Fr, f = ⟨n1, n2, n3, n4, T⟩ := ⟨_, rfl⟩
  rw [← hf]
  simp only []
  have Hf := hide hf
  clear hf
  have HQ0 := hide q0
  have HQ1 := hide q1
  have HQ2 := hide q2
  have HQ3 := hide q3
  have HQ4 := hide q4
  have HQ5 := hide q5
  have G0 := hide g0
  have G1 := hide g1
  have G2 := hide g2
  have G3 := hide g3
  have G4 := hide g4
  have G5 := hide g5
  have HS := hide hs
  have HL := hide hl
  clear hi24 hz24 hs24 hb24 q0 q1 q2 q3 q4 q5 k0 k1 k2 k3 k4 k5 g0 g1 g2 g3 g4 g5 hrd hs hl
  go_enter Try.func44, Try.ntmps44
  go_wp2_with (first
    | ((with_reducible refine aw_alloc (dst := some 2) Hi.out Hz.out ?_); intro w1 hb1 hk1 hz1)
    | fail)
  have HBr : Hid (Blk w1 w.heap.size (frV fr0 (.slice none 0 0)) 51) := hide hb1
  have HK1 := hide hk1
  have HZ1 := hide hz1
  clear hb1 hk1 hz1
  refine (new_at w1 v b (HS.out.kept HK1.out) HL.out).mono ?_
  rintro e w2 ⟨s, v2, rfl, hs2, hk2, hsz2⟩
  obtain ⟨r, hr⟩ : ∃ r, r = w.heap.size := ⟨_, rfl⟩
  have hrs : r ≠ s := by have := HZ1.out; omega
  have HWr := hide (by omega : w.heap.size ≤ r)
  have HWs := hide (by have := HZ1.out; omega : w.heap.size ≤ s)
  rw [← hr] at HBr ⊢
  clear hr hsz2 HZ1
  have HB2 := hide (hk2.blk HBr.out (fun h => h))
  have HK2 := hide (HK1.out.trans hk2 (fun _ _ h => h))
  have HS2 := hide hs2
  clear hk2 hs2 HK1 HBr
  go_wp2_with fail
  refine (snum_q HS2.out HL.out 2 HQ0.out).mono ?_
  rintro e w3 ⟨v3, rfl, hs3, hk3⟩
  have HB3 := hide (hk3.blk HB2.out hrs)
  have HK3 := hide (HK2.out.trans hk3 (fun i hi h => by have := HWs.out; omega))
  have HS3 := hide hs3
  clear hk3 hs3 HK2 HB2 HS2
  go_wp2_with fail
  refine (snum_q HS3.out G0.out 8 HQ1.out).mono ?_
  rintro e w4 ⟨v4, rfl, hs4, hk4⟩
  have HB4 := hide (hk4.blk HB3.out hrs)
  have HK4 := hide (HK3.out.trans hk4 (fun i hi h => by have := HWs.out; omega))
  have HS4 := hide hs4
  clear hk4 hs4 HK3 HB3 HS3
  go_wp2_with fail
  refine (snum_q HS4.out G1.out 4 HQ2.out).mono ?_
  rintro e w5 ⟨v5, rfl, hs5, hk5⟩
  have HB5 := hide (hk5.blk HB4.out hrs)
  have HK5 := hide (HK4.out.trans hk5 (fun i hi h => by have := HWs.out; omega))
  have HS5 := hide hs5
  clear hk5 hs5 HK4 HB4 HS4
  go_wp2_with fail
  refine (snum_q HS5.out G2.out 2 HQ3.out).mono ?_
  rintro e w6 ⟨v6, rfl, hs6, hk6⟩
  have HB6 := hide (hk6.blk HB5.out hrs)
  have HK6 := hide (HK5.out.trans hk6 (fun i hi h => by have := HWs.out; omega))
  have HS6 := hide hs6
  clear hk6 hs6 HK5 HB5 HS5
  go_wp2_with fail
  refine (snum_q HS6.out G3.out 2 HQ4.out).mono ?_
  rintro e w7 ⟨v7, rfl, hs7, hk7⟩
  have HB7 := hide (hk7.blk HB6.out hrs)
  have HK7 := hide (HK6.out.trans hk7 (fun i hi h => by have := HWs.out; omega))
  have HS7 := hide hs7
  clear hk7 hs7 HK6 HB6 HS6
  go_wp2_with fail
  refine (stext_q HS7.out G4.out 40 HQ5.out).mono ?_
  rintro e w8 ⟨vr, v8, rfl, hsr, hs8, hk8⟩
  obtain ⟨bo, cap, rfl⟩ := hsr.slice
  have HB8 := hide (hk8.blk HB7.out hrs)
  have HK8 := hide (HK7.out.trans hk8 (fun i hi h => by have := HWs.out; omega))
  have HS8 := hide hs8
  have HSr := hide hsr
  clear hk8 hs8 HK7 HB7 HS7 hsr
  have HRt : Hid (∀ w, Calls Try.prog 50 #[frAgg f (.slice bo T.length cap)] w fun e w' => e = .returned (.bool (rightN f)) ∧ Kept (fun _ => False) w w') := hide (fun w => right_at w f (.slice bo T.length cap) ⟨bo, cap, by rw [Hf.out]⟩)
  obtain ⟨len, hlen⟩ : ∃ len, len = T.length := ⟨_, rfl⟩
  rw [← hlen] at HSr HRt ⊢
  clear hlen
  go_wp2_with (with_reducible refine stop_build 51 ?_)
  refine hide ?_
  refine wpList_run rfl (r_build24 rfl rfl rfl rfl rfl) ?_
  have hfv : [Value.int .i64 n1, .int .i64 n2, .int .i64 n3, .int .i64 n4, .slice bo len cap] = frV f (.slice bo len cap) := by rw [Hf.out]; rfl
  rw [hfv]
  have HSr' : Hid (Src w8 (.slice bo len cap) f.B) := hide (by rw [Hf.out]; exact HSr.out)
  clear hfv Hf HSr
  have HO := hide (frV_one f bo len cap)
  obtain ⟨fl, hfl⟩ : ∃ fl, fl = frV f (.slice bo len cap) := ⟨_, rfl⟩
  have Hfl := hide hfl
  rw [← hfl] at HO ⊢
  have hfl5 : fl.length = 5 := by rw [hfl]; rfl
  have HF5 := hide hfl5
  clear hfl hfl5
  go_wp2_with (first
    | ((with_reducible refine aw_alloc (dst := some 5) Hi.out Hz.out ?_); intro w9 hb9 hk9 hz9)
    | ((with_reducible refine aw_store (x := .tmp 5) (M := fl) Try.agg51 rfl rfl HF5.out HO.out hb9 (by simp [Value.cells]) ?_); intro w10 hw10 hk10 hz10; rw [put_whole _ _ (by rw [HF5.out]; simp [Value.cells])] at hw10)
    | fail)
  have hq8 : r < w8.heap.size := HB8.out.lt
  obtain ⟨q, hq⟩ : ∃ q, q = w8.heap.size := ⟨_, rfl⟩
  rw [← hq] at hw10 hk10 ⊢
  have hqr : q ≠ r := by omega
  have HQ10 : Hid (Blk w10 q (frV f (.slice bo len cap)) 51) := hide (by rw [← Hfl.out]; exact hw10)
  have hk810 : Kept (fun _ => False) w8 w10 := hk9.trans hk10 (fun i hi h => by omega)
  have HB10 := hide (hk810.blk HB8.out (fun h => h))
  have HS10 := hide (HS8.out.kept hk810)
  have HSr10 := hide (HSr'.out.kept hk810)
  have HK10 := hide (HK8.out.trans hk810 (fun _ _ h => h))
  clear hw10 hk10 hz10 hb9 hk9 hz9 hk810 HB8 HS8 HSr' HK8 hq8 hq Hfl HF5 HO
  clear HQ0 HQ1 HQ2 HQ3 HQ4 HQ5 G0 G1 G2 G3 G4 HL HS Hi Hz
  cases hnn : noughtsN B5 E5 with
  | true =>
    have hno : ∀ w0 v8, ScanAt w0 s v8 B5 E5 → Calls Try.prog 67 #[.pointer (some ⟨s, 0, none⟩)] w0 fun e w' => e = .returned (.bool true) ∧ w0 = w' := fun w0 v8 h => by
      have := noughts_at w0 s v8 B5 E5 h G5.out
      rw [hnn] at this
      exact this
    have HNN := hide hnn
    clear hnn
    refine hold_frame (p := fun fr => Code.wp Try.prog _ _ fr _) ?_
    intro fr hfr
    have e2 : fr.eval (.tmp 2) = .pointer (some ⟨r, 0, none⟩) := by rw [hfr.out]; rfl
    have e4 : fr.eval (.tmp 4) = .pointer (some ⟨s, 0, none⟩) := by rw [hfr.out]; rfl
    have e5 : fr.eval (.tmp 5) = .pointer (some ⟨q, 0, none⟩) := by rw [hfr.out]; rfl
    have hts : fr.tmps.size = 28 := by rw [hfr.out]; rfl
    refine region_S0 99 Try.mixed ?_
    intro w0 hkw hheap
    have HBr := hide (hkw.blk HB10.out (fun h => h))
    have HBq := hide (hkw.blk HQ10.out (fun h => h))
    have HSc := hide (HS10.out.kept hkw)
    have HSv := hide (HSr10.out.kept hkw)
    have HK0 := hide (HK10.out.trans hkw (fun _ _ h => h))
    clear HB10 HQ10 HS10 HSr10 HK10
    have hS0 : Kept (fun k => k = r) w0 w0 := Kept.refl (fun k => k = r) w0
    refine ⟨Kept (fun k => k = r) w0, ?_⟩
    refine tkS 0 21 (v := frAgg f (.slice bo len cap)) hS0 rfl rfl (by kernel_rfl) (by kernel_rfl) (by kernel_rfl) (by kernel_rfl) (wanted_none rfl) (fun _ _ _ h => h) (fun U hU => run_load24 (by simp [eval_put_ne, eval_put_eq, size_put, hts, e5]) (hU.blk HBq.out hqr)) ?_
    refine tkS 1 22 (v := .pointer (some ⟨s, 0, none⟩)) hS0 rfl rfl (by kernel_rfl) (by kernel_rfl) (by kernel_rfl) (by kernel_rfl) (wanted_none rfl) (fun _ _ _ h => h) (fun U hU => r_move (by simp [eval_put_ne, eval_put_eq, size_put, hts, e4])) ?_
    refine oneCS 2 23 (by kernel_rfl) rfl rfl (wanted_none rfl) (r_call1 Try.func67 (by kernel_rfl) rfl rfl (by simp [eval_put_ne, eval_put_eq, size_put, hts])) (hno w0 v8 HSc.out) ?_
    rintro e w1 ⟨rfl, rfl⟩
    refine ⟨_, rfl, hS0, ?_⟩
    refine tkS 3 24 (v := .bool true) hS0 rfl rfl (by kernel_rfl) (by kernel_rfl) (by kernel_rfl) (by kernel_rfl) (wanted_none rfl) (fun _ _ _ h => h) (fun U hU => r_move (by simp [eval_put_ne, eval_put_eq, size_put, hts])) ?_
    refine tkS 4 25 (v := frAgg f (.slice bo len cap)) hS0 rfl rfl (by kernel_rfl) (by kernel_rfl) (by kernel_rfl) (by kernel_rfl) (wanted_some (j := 3) (d := 24) (bb := true) rfl rfl rfl (by simp [eval_put_ne, eval_put_eq, size_put, hts]) (by simp [size_put, hts])) (fun _ _ _ h => h) (fun U hU => run_load24 (by simp [eval_put_ne, eval_put_eq, size_put, hts, e5]) (hU.blk HBq.out hqr)) ?_
    refine oneCS 5 26 (by kernel_rfl) rfl rfl (wanted_some (j := 3) (d := 24) (bb := true) rfl rfl rfl (by simp [eval_put_ne, eval_put_eq, size_put, hts]) (by simp [size_put, hts])) (r_call1 Try.func50 (by kernel_rfl) rfl rfl (by simp [eval_put_ne, eval_put_eq, size_put, hts])) (HRt.out w0) ?_
    rintro e w1 ⟨rfl, hk1⟩
    have hS1 : Kept (fun k => k = r) w0 w1 := hk1.mono (fun _ _ h => h.elim)
    refine ⟨_, rfl, hS1, ?_⟩
    refine tkS 6 27 (v := .bool (rightN f)) hS1 rfl rfl (by kernel_rfl) (by kernel_rfl) (by kernel_rfl) (by kernel_rfl) (wanted_none rfl) (fun _ _ _ h => h) (fun U hU => r_pick (by simp [eval_put_ne, eval_put_eq, size_put, hts]) (by simp [eval_put_ne, eval_put_eq, size_put, hts])) ?_
    refine oneKS 7 (by kernel_rfl) rfl rfl (wanted_none rfl) (run_store24 (f := f) (bo := bo) (n := len) (k := cap) (L := frV fr0 (.slice none 0 0)) (by simp [eval_put_ne, eval_put_eq, size_put, hts, e2]) (by simp [eval_put_ne, eval_put_eq, size_put, hts]) (hk1.blk HBr.out (fun h => h)) rfl) (hS1.trans (Kept.setRow (S := fun k => k = r) _ _ _ rfl) (fun _ _ h => h)) ?_
    have hbr := (hk1.blk HBr.out (fun h => h)).setRow (frV f (.slice bo len cap))
    have hkr : Kept (fun k => k = r) w0 (w1.setRow r (frV f (.slice bo len cap)).toArray) := hS1.trans (Kept.setRow (S := fun k => k = r) _ _ _ rfl) (fun _ _ h => h)
    generalize w1.setRow r (frV f (.slice bo len cap)).toArray = w2 at hbr hkr ⊢
    refine oneVS 8 3 (v := .bool (rightN f)) (by kernel_rfl) rfl rfl (wanted_none rfl) (r_assign (by simp [eval_put_ne, eval_put_eq, size_put, hts])) hkr ?_
    refine doneS (by kernel_rfl) ?_
    rw [hfr.out]
    clear hfr e2 e4 e5 hts
    simp only [put_lit, put_none, List.set_cons_succ, List.set_cons_zero]
    have HSv2 := hide (HSv.out.keptBut hkr (nobyte24 HBr.out))
    have HKe := hide (HK0.out.trans hkr (fun i hi h => by have := HWr.out; omega))
    have HBe := hide hbr
    clear hbr hkr HSv HBr HBq HSc
    go_wp2
    refine bodyPost_ret (results_cell2 (t := 2) (u := 3) (ty := 51) rfl Try.agg51 rfl HBe.out rfl) rfl ?_
    refine ⟨_, by rw [HNN.out]; rfl, HSv2.out, HKe.out⟩
  | false =>
    have hno : ∀ w0 v8, ScanAt w0 s v8 B5 E5 → Calls Try.prog 67 #[.pointer (some ⟨s, 0, none⟩)] w0 fun e w' => e = .returned (.bool false) ∧ w0 = w' := fun w0 v8 h => by
      have := noughts_at w0 s v8 B5 E5 h G5.out
      rw [hnn] at this
      exact this
    have HNN := hide hnn
    clear hnn
    refine hold_frame (p := fun fr => Code.wp Try.prog _ _ fr _) ?_
    intro fr hfr
    have e2 : fr.eval (.tmp 2) = .pointer (some ⟨r, 0, none⟩) := by rw [hfr.out]; rfl
    have e4 : fr.eval (.tmp 4) = .pointer (some ⟨s, 0, none⟩) := by rw [hfr.out]; rfl
    have e5 : fr.eval (.tmp 5) = .pointer (some ⟨q, 0, none⟩) := by rw [hfr.out]; rfl
    have hts : fr.tmps.size = 28 := by rw [hfr.out]; rfl
    refine region_S0 99 Try.mixed ?_
    intro w0 hkw hheap
    have HBr := hide (hkw.blk HB10.out (fun h => h))
    have HBq := hide (hkw.blk HQ10.out (fun h => h))
    have HSc := hide (HS10.out.kept hkw)
    have HSv := hide (HSr10.out.kept hkw)
    have HK0 := hide (HK10.out.trans hkw (fun _ _ h => h))
    clear HB10 HQ10 HS10 HSr10 HK10
    have hS0 : Kept (fun k => k = r) w0 w0 := Kept.refl (fun k => k = r) w0
    refine ⟨Kept (fun k => k = r) w0, ?_⟩
    refine tkS 0 21 (v := frAgg f (.slice bo len cap)) hS0 rfl rfl (by kernel_rfl) (by kernel_rfl) (by kernel_rfl) (by kernel_rfl) (wanted_none rfl) (fun _ _ _ h => h) (fun U hU => run_load24 (by simp [eval_put_ne, eval_put_eq, size_put, hts, e5]) (hU.blk HBq.out hqr)) ?_
    refine tkS 1 22 (v := .pointer (some ⟨s, 0, none⟩)) hS0 rfl rfl (by kernel_rfl) (by kernel_rfl) (by kernel_rfl) (by kernel_rfl) (wanted_none rfl) (fun _ _ _ h => h) (fun U hU => r_move (by simp [eval_put_ne, eval_put_eq, size_put, hts, e4])) ?_
    refine oneCS 2 23 (by kernel_rfl) rfl rfl (wanted_none rfl) (r_call1 Try.func67 (by kernel_rfl) rfl rfl (by simp [eval_put_ne, eval_put_eq, size_put, hts])) (hno w0 v8 HSc.out) ?_
    rintro e w1 ⟨rfl, rfl⟩
    refine ⟨_, rfl, hS0, ?_⟩
    refine tkS 3 24 (v := .bool false) hS0 rfl rfl (by kernel_rfl) (by kernel_rfl) (by kernel_rfl) (by kernel_rfl) (wanted_none rfl) (fun _ _ _ h => h) (fun U hU => r_move (by simp [eval_put_ne, eval_put_eq, size_put, hts])) ?_
    refine tkNS 4 25 hS0 rfl rfl (by kernel_rfl) (by kernel_rfl) (by kernel_rfl) (by kernel_rfl) (wanted_not (j := 3) (d := 24) (bb := true) rfl rfl rfl (by simp [eval_put_ne, eval_put_eq, size_put, hts]) (by simp [size_put, hts])) (fun _ _ _ h => h) ?_
    refine tkNS 5 26 hS0 rfl rfl (by kernel_rfl) (by kernel_rfl) (by kernel_rfl) (by kernel_rfl) (wanted_not (j := 3) (d := 24) (bb := true) rfl rfl rfl (by simp [eval_put_ne, eval_put_eq, size_put, hts]) (by simp [size_put, hts])) (fun _ _ _ h => h) ?_
    refine tkS 6 27 (v := .bool false) hS0 rfl rfl (by kernel_rfl) (by kernel_rfl) (by kernel_rfl) (by kernel_rfl) (wanted_none rfl) (fun _ _ _ h => h) (fun U hU => r_pickF (by simp [eval_put_ne, eval_put_eq, size_put, hts]) rfl) ?_
    refine oneKS 7 (by kernel_rfl) rfl rfl (wanted_none rfl) (run_store24 (f := f) (bo := bo) (n := len) (k := cap) (L := frV fr0 (.slice none 0 0)) (by simp [eval_put_ne, eval_put_eq, size_put, hts, e2]) (by simp [eval_put_ne, eval_put_eq, size_put, hts]) HBr.out rfl) (hS0.trans (Kept.setRow (S := fun k => k = r) _ _ _ rfl) (fun _ _ h => h)) ?_
    have hbr := HBr.out.setRow (frV f (.slice bo len cap))
    have hkr : Kept (fun k => k = r) w0 (w0.setRow r (frV f (.slice bo len cap)).toArray) := hS0.trans (Kept.setRow (S := fun k => k = r) _ _ _ rfl) (fun _ _ h => h)
    generalize w0.setRow r (frV f (.slice bo len cap)).toArray = w2 at hbr hkr ⊢
    refine oneVS 8 3 (v := .bool false) (by kernel_rfl) rfl rfl (wanted_none rfl) (r_assign (by simp [eval_put_ne, eval_put_eq, size_put, hts])) hkr ?_
    refine doneS (by kernel_rfl) ?_
    rw [hfr.out]
    clear hfr e2 e4 e5 hts
    simp only [put_lit, put_none, List.set_cons_succ, List.set_cons_zero]
    have HSv2 := hide (HSv.out.keptBut hkr (nobyte24 HBr.out))
    have HKe := hide (HK0.out.trans hkr (fun i hi h => by have := HWr.out; omega))
    have HBe := hide hbr
    clear hbr hkr HSv HBr HBq HSc
    go_wp2
    refine bodyPost_ret (results_cell2 (t := 2) (u := 3) (ty := 51) rfl Try.agg51 rfl HBe.out rfl) rfl ?_
    refine ⟨_, by rw [HNN.out]; rfl, HSv2.out, HKe.out⟩
end Go.Proofs.Ytapoagpkjngjpaa
