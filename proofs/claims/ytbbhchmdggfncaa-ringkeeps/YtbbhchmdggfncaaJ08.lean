/-
  Put.
-/
import Derived.Test.YtbbhchmdggfncaaJ07
namespace Go.Proofs.Ytbbhchmdggfncaa
open Go.RowKit Go.Shelf
set_option linter.unusedSimpArgs false
set_option linter.unusedVariables false
set_option maxRecDepth 100000

theorem number_fit (w0 w : World) (p : Nat) (A A' : List Nat) (hp : Pn w0 w p A) (hl : A.length ≤ 90000000) (n : Int) (m : Nat) (hn : n ≤ 9223372036854775807) (hf : fitsN n m = true) (hA : A' = A ++ numB n.toNat m) :
    Calls Try.prog 57 #[.pointer (some ⟨p, 0, none⟩), .int .i64 n, .int .i64 m] w fun e w' => e = .returned (.bool true) ∧ Pn w0 w' p A' := by
  refine (number_pn w0 w p A hp hl n m hn).mono ?_
  rintro e w' ⟨rfl, h⟩
  rw [hf]
  refine ⟨rfl, ?_⟩
  unfold penNum at h
  rw [if_pos hf] at h
  rw [hA]
  exact h

theorem fits_fr {n : Int} {m : Nat} (h1 : 1 ≤ m) (h8 : m ≤ 8) (h0 : 0 ≤ n) (h : n.toNat < 256 ^ m) : fitsN n m = true := by
  unfold fitsN
  simp only [decide_eq_true_eq, Int.toNat_natCast]
  exact ⟨by omega, by omega, h0, h⟩

set_option maxRecDepth 100000 in
set_option maxHeartbeats 4000000 in
theorem put_at (w : World) (f : Fr) (vb : Value) (hs : Src w vb f.B) (hr : rightN f = true) :
    Calls Try.prog 56 #[frAgg f vb] w fun e w' => ∃ g, e = .returned (.slice (some ⟨g, 0, none⟩) 64 64) ∧ Blk w' g (BV (putN f)) 5 ∧ w.heap.size ≤ g ∧ Kept (fun _ => False) w w' := by
  obtain ⟨r1, r2, r3, r4, r5, r6, r7, r8⟩ := (rightN_iff f).1 hr
  obtain ⟨i59, hi59, hz59, hs59, hb59⟩ := info_parts Try.info100
  have Hi := hide hi59
  have Hz := hide hz59
  obtain ⟨A1, hA1⟩ : ∃ A, A = [] ++ numB (46878 : Int).toNat 2 := ⟨_, rfl⟩
  obtain ⟨A2, hA2⟩ : ∃ A, A = A1 ++ numB f.lsn.toNat 8 := ⟨_, rfl⟩
  obtain ⟨A3, hA3⟩ : ∃ A, A = A2 ++ numB f.ep.toNat 4 := ⟨_, rfl⟩
  obtain ⟨A4, hA4⟩ : ∃ A, A = A3 ++ numB f.ix.toNat 2 := ⟨_, rfl⟩
  obtain ⟨A5, hA5⟩ : ∃ A, A = A4 ++ numB f.ct.toNat 2 := ⟨_, rfl⟩
  have l1 : A1.length = 2 := by rw [hA1]; simp [numB_length]
  have l2 : A2.length = 10 := by rw [hA2]; simp [numB_length, l1]
  have l3 : A3.length = 14 := by rw [hA3]; simp [numB_length, l2]
  have l4 : A4.length = 16 := by rw [hA4]; simp [numB_length, l3]
  have l5 : A5.length = 18 := by rw [hA5]; simp [numB_length, l4]
  have hh : A5 ++ textB f.B = headN f := by
    rw [hA5, hA4, hA3, hA2, hA1]
    simp [headN, show (46878 : Int).toNat = 46878 from rfl]
  have F1 := hide (fits_fr (n := 46878) (m := 2) (by decide) (by decide) (by decide) (by decide))
  have F2 := hide (fits_fr (n := f.lsn) (m := 8) (by decide) (by decide) r1 (by simp; omega))
  have F3 := hide (fits_fr (n := f.ep) (m := 4) (by decide) (by decide) r3 (by simp; omega))
  have F4 := hide (fits_fr (n := f.ix) (m := 2) (by decide) (by decide) r6 (by simp; omega))
  have F5 := hide (fits_fr (n := f.ct) (m := 2) (by decide) (by decide) (by omega) (by simp; omega))
  have H1 := hide hA1
  have H2 := hide hA2
  have H3 := hide hA3
  have H4 := hide hA4
  have H5 := hide hA5
  have L1 := hide l1
  have L2 := hide l2
  have L3 := hide l3
  have L4 := hide l4
  have L5 := hide l5
  have HH := hide hh
  have HR := hide hr
  have B2 := hide r2
  have B4 := hide r4
  have B5 := hide r5
  have B7 := hide r7
  have B8 := hide r8
  have HS := hide hs
  clear hi59 hz59 hs59 hb59 hA1 hA2 hA3 hA4 hA5 l1 l2 l3 l4 l5 hh hr r1 r2 r3 r4 r5 r6 r7 r8 hs
  unfold frAgg
  go_enter Try.func56, Try.ntmps56
  go_wp2_with (first
    | ((with_reducible refine aw_box (t := 98) (v := .agg #[.int .i64 f.lsn, .int .i64 f.ep, .int .i64 f.ix, .int .i64 f.ct, vb]) rfl ?_); intro w1 hb1 hk1 hz1)
    | (with_reducible refine aw_load (x := .tmp 1) (M := frV f vb) Try.agg98 rfl hb1 (by simp [Value.cells]) rfl ?_)
    | fail)
  have hR := right_at w1 f vb HS.out.slice
  rw [HR.out] at hR
  refine hR.mono ?_
  rintro e w2 ⟨rfl, hk2⟩
  have HB2 := hide (hk2.blk hb1 (fun h => h))
  have HS2 := hide ((HS.out.kept hk1).kept hk2)
  have HK2 := hide (hk1.trans hk2 (fun _ _ h => h))
  clear hR hb1 hk1 hz1 hk2
  obtain ⟨b1, hbe⟩ : ∃ b1, b1 = w.heap.size := ⟨_, rfl⟩
  rw [← hbe] at HB2 ⊢
  clear hbe
  go_wp2_with (first
    | ((with_reducible refine aw_alloc (t := 100) Hi.out Hz.out ?_); intro w3 hb3 hk3 hz3; have HP3 : Hid (Pn w2 w3 w2.heap.size []) := hide ⟨Nat.le_refl _, hk3, _, pen_new hb3, fun k h => by simp [Value.ownBlock] at h⟩; clear hz3 hb3 hk3)
    | fail)
  obtain ⟨p, hp⟩ : ∃ p, p = w2.heap.size := ⟨_, rfl⟩
  rw [← hp] at HP3 ⊢
  clear hp
  refine (number_fit w2 w3 p [] A1 HP3.out (by simp) 46878 2 (by decide) F1.out H1.out).mono ?_
  rintro e w4 ⟨rfl, hp4⟩
  have c0 : w4.cell? ⟨b1, 0, none⟩ = some (.int .i64 f.lsn) := (hp4.base.blk HB2.out (fun h => h)).cell 0
  have HP4 := hide hp4
  clear HP3 hp4
  go_wp2_with fail
  refine (number_fit w2 w4 p A1 A2 HP4.out (by rw [L1.out]; decide) f.lsn 8 (by have := B2.out; omega) F2.out H2.out).mono ?_
  rintro e w5 ⟨rfl, hp5⟩
  have c1 : w5.cell? ⟨b1, 1, none⟩ = some (.int .i64 f.ep) := (hp5.base.blk HB2.out (fun h => h)).cell 1
  have HP5 := hide hp5
  clear HP4 hp5 c0
  go_wp2_with fail
  refine (number_fit w2 w5 p A2 A3 HP5.out (by rw [L2.out]; decide) f.ep 4 (by have := B4.out; omega) F3.out H3.out).mono ?_
  rintro e w6 ⟨rfl, hp6⟩
  have c2 : w6.cell? ⟨b1, 2, none⟩ = some (.int .i64 f.ix) := (hp6.base.blk HB2.out (fun h => h)).cell 2
  have HP6 := hide hp6
  clear HP5 hp6 c1
  go_wp2_with fail
  refine (number_fit w2 w6 p A3 A4 HP6.out (by rw [L3.out]; decide) f.ix 2 (by have := B7.out; have := B8.out; omega) F4.out H4.out).mono ?_
  rintro e w7 ⟨rfl, hp7⟩
  have c3 : w7.cell? ⟨b1, 3, none⟩ = some (.int .i64 f.ct) := (hp7.base.blk HB2.out (fun h => h)).cell 3
  have HP7 := hide hp7
  clear HP6 hp7 c2
  go_wp2_with fail
  refine (number_fit w2 w7 p A4 A5 HP7.out (by rw [L4.out]; decide) f.ct 2 (by have := B8.out; omega) F5.out H5.out).mono ?_
  rintro e w8 ⟨rfl, hp8⟩
  have c4 : w8.cell? ⟨b1, 4, none⟩ = some vb := (hp8.base.blk HB2.out (fun h => h)).cell 4
  have HP8 := hide hp8
  clear HP7 hp8 c3
  go_wp2_with fail
  refine (text_pn w2 w8 p A5 HP8.out (by rw [L5.out]; decide) vb f.B HS2.out (by have := B5.out; omega)).mono ?_
  rintro e w9 ⟨rfl, hp9⟩
  rw [HH.out] at hp9
  have HP9 := hide hp9
  clear HP8 hp9 c4
  go_wp2_with fail
  obtain ⟨-, hkp, vp, hpen, -⟩ := HP9.out
  have HKp := hide hkp
  refine (padded_at w9 p vp (headN f) hpen (by rw [headN_length]; have := B5.out; omega) 64 (by decide)).mono ?_
  rintro e w10 ⟨v10, rfl, hs10, hk10⟩
  have HS10 := hide hs10
  have HK10 := hide ((HK2.out.trans HKp.out (fun _ _ h => h)).trans hk10 (fun _ _ h => h))
  clear hs10 hk10 hpen hkp HP9
  go_wp2_with fail
  refine (mark_at w10 v10 _ HS10.out (by rw [pad64_length f B5.out]; decide)).mono ?_
  rw [pad64_length f B5.out]
  rintro e w11 ⟨g, rfl, hb11, hg11, hk11⟩
  have Hb11 := hide hb11
  have Hg11 := hide hg11
  have Hk11 := hide hk11
  clear hb11 hg11 hk11
  go_wp2
  go_ret
  refine ⟨g, rfl, Hb11.out, ?_, HK10.out.trans Hk11.out (fun _ _ h => h)⟩
  have := HK10.out.size
  have := Hg11.out
  omega
end Go.Proofs.Ytbbhchmdggfncaa


/-
  read: the frame that a sector without its sum has.
-/
namespace Go.Proofs.Ytbbhchmdggfncaa
open Go.RowKit Go.Shelf
set_option linter.unusedSimpArgs false
set_option linter.unusedVariables false
set_option maxRecDepth 100000

section
variable {P : Program} {ops : Array Oper} {Q : Exit → Act → World → Prop} {md : Region.Mode} {S : World → Prop} {m fuel : Nat} {listed : Array Bool} {a : Act} {w w' : World}
/-- The only one that may come up stores. -/
theorem oneKS (i : Nat) {oi : Oper} (hr : Region.ready md ops listed = [i]) (hi : ops[i]? = some oi) (hd : oi.dst = none) (hw : Region.wanted oi (yielded ops a.tmps) = true) (hrun : (execOp a.eval oi).run P w = .ok .skip w') (hS : S w')
    (h : wpAnyM P md ops Q S m fuel (listed.setIfInBounds i true) a w') : wpAnyM P md ops Q S m (fuel + 1) listed a w := by
  refine oneS i hr ?_
  unfold wpOp
  simp only [hi, hw, if_true]
  refine .inl ?_
  unfold Oper.wp
  rw [hrun]
  refine ⟨fun _ => hS, ?_⟩
  rw [hd]
  exact h
end
theorem snum_q {w : World} {s : Nat} {v : Value} {B : List Nat} {E : Int} (h : ScanAt w s v B E) (hl : B.length ≤ 90000000) (m : Int) {n : Int} {B' : List Nat} {E' : Int} (hq : scanNum B E m = (n, B', E')) :
    Calls Try.prog 76 #[.pointer (some ⟨s, 0, none⟩), .int .i64 m] w fun e w' => ∃ v', e = .returned (.int .i64 n) ∧ ScanAt w' s v' B' E' ∧ Kept (fun k => k = s) w w' := by
  have := snum_at w s v B E h hl m
  rw [hq] at this
  exact this
theorem stext_q {w : World} {s : Nat} {v : Value} {B : List Nat} {E : Int} (h : ScanAt w s v B E) (hl : B.length ≤ 90000000) (m : Int) {T : List Nat} {B' : List Nat} {E' : Int} (hq : scanText B E m = (T, B', E')) :
    Calls Try.prog 92 #[.pointer (some ⟨s, 0, none⟩), .int .i64 m] w fun e w' => ∃ vr v', e = .returned vr ∧ Src w' vr T ∧ ScanAt w' s v' B' E' ∧ Kept (fun k => k = s) w w' := by
  have := stext_at w s v B E h hl m
  rw [hq] at this
  exact this
theorem built24 (a b c d : Int) (bo : Option Addr) (n k : Nat) : Try.prog.built 98 [(0, .int .i64 a), (1, .int .i64 b), (2, .int .i64 c), (3, .int .i64 d), (4, .slice bo n k)] = some #[.int .i64 a, .int .i64 b, .int .i64 c, .int .i64 d, .slice bo n k] := by rfl
theorem r_build24 {ρ : Operand → Value} {w : World} {dst : Option Tmp} {ty : TypeId} {pos : String} {aft : Array Edge} {gd : Option (Nat × Bool)} {x0 x1 x2 x3 x4 : Operand} {a b c d : Int} {bo : Option Addr} {n k : Nat} (h0 : ρ x0 = .int .i64 a) (h1 : ρ x1 = .int .i64 b) (h2 : ρ x2 = .int .i64 c) (h3 : ρ x3 = .int .i64 d) (h4 : ρ x4 = .slice bo n k) :
    (execOp ρ ⟨dst, .build 98 #[(0, x0), (1, x1), (2, x2), (3, x3), (4, x4)], ty, pos, aft, gd⟩).run Try.prog w = .ok (.value (.agg [.int .i64 a, .int .i64 b, .int .i64 c, .int .i64 d, .slice bo n k].toArray)) w := by
  have hr := run_build (P := Try.prog) w 98 #[(0, .int .i64 a), (1, .int .i64 b), (2, .int .i64 c), (3, .int .i64 d), (4, .slice bo n k)] _ (by simpa using built24 a b c d bo n k)
  simp [execOp, h0, h1, h2, h3, h4, hr]
theorem run_load24 {ρ : Operand → Value} {w : World} {dst : Option Tmp} {ty : TypeId} {x : Operand} {pos : String} {aft : Array Edge} {gd : Option (Nat × Bool)} {b : Nat} {f : Fr} {vb : Value} (hx : ρ x = .pointer (some ⟨b, 0, none⟩)) (hb : Blk w b (frV f vb) 98) :
    (execOp ρ ⟨dst, .load 98 x, ty, pos, aft, gd⟩).run Try.prog w = .ok (.value (frAgg f vb)) w := by
  have h := run_load_agg (P := Try.prog) (ρ := ρ) (w := w) (dst := dst) (t := 98) (ty := ty) (x := x) (pos := pos) (aft := aft) (gd := gd) (off := 0) Try.agg98 hx hb (by simp [frV])
  simpa [frV, frAgg] using h
theorem frV_one (f : Fr) (bo : Option Addr) (n k : Nat) : ∀ v ∈ frV f (.slice bo n k), v.oneCell' = true := by
  intro v hv
  simp [frV] at hv
  rcases hv with rfl | rfl | rfl | rfl | rfl <;> rfl
theorem run_store24 {ρ : Operand → Value} {w : World} {dst : Option Tmp} {ty : TypeId} {x y : Operand} {pos : String} {aft : Array Edge} {gd : Option (Nat × Bool)} {b : Nat} {f : Fr} {bo : Option Addr} {n k : Nat} {L : List Value} (hx : ρ x = .pointer (some ⟨b, 0, none⟩)) (hy : ρ y = frAgg f (.slice bo n k)) (hb : Blk w b L 98) (hL : L.length = 5) :
    (execOp ρ ⟨dst, .store 98 x y, ty, pos, aft, gd⟩).run Try.prog w = .ok .skip (w.setRow b (frV f (.slice bo n k)).toArray) := by
  have h := run_store_agg (P := Try.prog) (ρ := ρ) (w := w) (dst := dst) (t := 98) (ty := ty) (x := x) (y := y) (pos := pos) (aft := aft) (gd := gd) (off := 0) (M := frV f (.slice bo n k)) Try.agg98 hx hy rfl (frV_one f bo n k) hb (by rw [hL]; decide)
  have e : List.take 0 L ++ frV f (.slice bo n k) ++ List.drop (0 + 5) L = frV f (.slice bo n k) := by rw [List.take_zero, List.nil_append, List.drop_of_length_le (by omega), List.append_nil]
  rw [e] at h
  exact h
theorem results_cell2 {P : Program} {fn : Func} {t u : Tmp} {ty : TypeId} {n b : Nat} {L : List Value} {e : TypeId} {tmps : Array Value} {w : World} (h : fn.results = #[.cell t ty, .tmp u]) (ht : aggSize P ty n) (hx : tmps.getD t undef = .pointer (some ⟨b, 0, none⟩)) (hb : Blk w b L e) (hl : L.length = n) :
    (results fn tmps).run P w = .ok (.tuple #[.agg L.toArray, tmps.getD u undef]) w := by
  have hv := run_loadVar (P := P) ht hb hl
  simp only [Array.getD_eq_getD_getElem?] at hx
  simp [results, h, hx, hv, asAddr]
theorem nobyte24 {w : World} {r : Nat} {f : Fr} {bo : Option Addr} {n k : Nat} (h : Blk w r (frV f (.slice bo n k)) 98) : ∀ q, q = r → ∀ i m, w.cell? ⟨q, i, none⟩ ≠ some (.int .u8 m) := by
  rintro q rfl i m hc
  rw [h.cell] at hc
  match i with
  | 0 => simp [frV] at hc
  | 1 => simp [frV] at hc
  | 2 => simp [frV] at hc
  | 3 => simp [frV] at hc
  | 4 => simp [frV] at hc
  | i + 5 => simp [frV] at hc

set_option maxRecDepth 100000 in
set_option maxHeartbeats 4000000 in
theorem read_at (w : World) (v : Value) (b : List Nat) (hs : Src w v b) (hl : b.length ≤ 90000000) :
    Calls Try.prog 81 #[v] w fun e w' => ∃ vb, e = .returned (.tuple #[frAgg (readN b).1 vb, .bool (readN b).2]) ∧ Src w' vb (readN b).1.B ∧ Kept (fun _ => False) w w' := by
  obtain ⟨i24, hi24, hz24, hs24, hb24⟩ := info_parts Try.info98
  have Hi := hide hi24
  have Hz := hide hz24
  obtain ⟨n0, B0, E0, q0⟩ : ∃ n B E, scanNum b 0 2 = (n, B, E) := ⟨_, _, _, rfl⟩
  obtain ⟨n1, B1, E1, q1⟩ : ∃ n B E, scanNum B0 E0 8 = (n, B, E) := ⟨_, _, _, rfl⟩
  obtain ⟨n2, B2, E2, q2⟩ : ∃ n B E, scanNum B1 E1 4 = (n, B, E) := ⟨_, _, _, rfl⟩
  obtain ⟨n3, B3, E3, q3⟩ : ∃ n B E, scanNum B2 E2 2 = (n, B, E) := ⟨_, _, _, rfl⟩
  obtain ⟨n4, B4, E4, q4⟩ : ∃ n B E, scanNum B3 E3 2 = (n, B, E) := ⟨_, _, _, rfl⟩
  obtain ⟨T, B5, E5, q5⟩ : ∃ n B E, scanText B4 E4 40 = (n, B, E) := ⟨_, _, _, rfl⟩
  have hrd : readN b = (⟨n1, n2, n3, n4, T⟩, noughtsN B5 E5 && rightN ⟨n1, n2, n3, n4, T⟩) := by
    unfold readN
    rw [q0]; simp only []
    rw [q1]; simp only []
    rw [q2]; simp only []
    rw [q3]; simp only []
    rw [q4]; simp only []
    rw [q5]
  have k0 : B0.length ≤ b.length := by have := scanNum_len b 0 2; rw [q0] at this; exact this
  have k1 : B1.length ≤ B0.length := by have := scanNum_len B0 E0 8; rw [q1] at this; exact this
  have k2 : B2.length ≤ B1.length := by have := scanNum_len B1 E1 4; rw [q2] at this; exact this
  have k3 : B3.length ≤ B2.length := by have := scanNum_len B2 E2 2; rw [q3] at this; exact this
  have k4 : B4.length ≤ B3.length := by have := scanNum_len B3 E3 2; rw [q4] at this; exact this
  have k5 : B5.length ≤ B4.length := by have := scanText_len B4 E4 40; rw [q5] at this; exact this
  have g0 : B0.length ≤ 90000000 := by omega
  have g1 : B1.length ≤ 90000000 := by omega
  have g2 : B2.length ≤ 90000000 := by omega
  have g3 : B3.length ≤ 90000000 := by omega
  have g4 : B4.length ≤ 90000000 := by omega
  have g5 : B5.length ≤ 90000000 := by omega
  rw [hrd]
  obtain ⟨f, hf⟩ : ∃ f : Fr, f = ⟨n1, n2, n3, n4, T⟩ := ⟨_, rfl⟩
  rw [← hf]
  simp only []
  have Hf := hide hf
  clear hf
  have HQ0 := hide q0
  have HQ1 := hide q1
  have HQ2 := hide q2
  have HQ3 := hide q3
  have HQ4 := hide q4
  have HQ5 := hide q5
  have G0 := hide g0
  have G1 := hide g1
  have G2 := hide g2
  have G3 := hide g3
  have G4 := hide g4
  have G5 := hide g5
  have HS := hide hs
  have HL := hide hl
  clear hi24 hz24 hs24 hb24 q0 q1 q2 q3 q4 q5 k0 k1 k2 k3 k4 k5 g0 g1 g2 g3 g4 g5 hrd hs hl
  go_enter Try.func81, Try.ntmps81
  go_wp2_with (first
    | ((with_reducible refine aw_alloc (dst := some 2) Hi.out Hz.out ?_); intro w1 hb1 hk1 hz1)
    | fail)
  have HBr : Hid (Blk w1 w.heap.size (frV fr0 (.slice none 0 0)) 98) := hide hb1
  have HK1 := hide hk1
  have HZ1 := hide hz1
  clear hb1 hk1 hz1
  refine (new_at w1 v b (HS.out.kept HK1.out) HL.out).mono ?_
  rintro e w2 ⟨s, v2, rfl, hs2, hk2, hsz2⟩
  obtain ⟨r, hr⟩ : ∃ r, r = w.heap.size := ⟨_, rfl⟩
  have hrs : r ≠ s := by have := HZ1.out; omega
  have HWr := hide (by omega : w.heap.size ≤ r)
  have HWs := hide (by have := HZ1.out; omega : w.heap.size ≤ s)
  rw [← hr] at HBr ⊢
  clear hr hsz2 HZ1
  have HB2 := hide (hk2.blk HBr.out (fun h => h))
  have HK2 := hide (HK1.out.trans hk2 (fun _ _ h => h))
  have HS2 := hide hs2
  clear hk2 hs2 HK1 HBr
  go_wp2_with fail
  refine (snum_q HS2.out HL.out 2 HQ0.out).mono ?_
  rintro e w3 ⟨v3, rfl, hs3, hk3⟩
  have HB3 := hide (hk3.blk HB2.out hrs)
  have HK3 := hide (HK2.out.trans hk3 (fun i hi h => by have := HWs.out; omega))
  have HS3 := hide hs3
  clear hk3 hs3 HK2 HB2 HS2
  go_wp2_with fail
  refine (snum_q HS3.out G0.out 8 HQ1.out).mono ?_
  rintro e w4 ⟨v4, rfl, hs4, hk4⟩
  have HB4 := hide (hk4.blk HB3.out hrs)
  have HK4 := hide (HK3.out.trans hk4 (fun i hi h => by have := HWs.out; omega))
  have HS4 := hide hs4
  clear hk4 hs4 HK3 HB3 HS3
  go_wp2_with fail
  refine (snum_q HS4.out G1.out 4 HQ2.out).mono ?_
  rintro e w5 ⟨v5, rfl, hs5, hk5⟩
  have HB5 := hide (hk5.blk HB4.out hrs)
  have HK5 := hide (HK4.out.trans hk5 (fun i hi h => by have := HWs.out; omega))
  have HS5 := hide hs5
  clear hk5 hs5 HK4 HB4 HS4
  go_wp2_with fail
  refine (snum_q HS5.out G2.out 2 HQ3.out).mono ?_
  rintro e w6 ⟨v6, rfl, hs6, hk6⟩
  have HB6 := hide (hk6.blk HB5.out hrs)
  have HK6 := hide (HK5.out.trans hk6 (fun i hi h => by have := HWs.out; omega))
  have HS6 := hide hs6
  clear hk6 hs6 HK5 HB5 HS5
  go_wp2_with fail
  refine (snum_q HS6.out G3.out 2 HQ4.out).mono ?_
  rintro e w7 ⟨v7, rfl, hs7, hk7⟩
  have HB7 := hide (hk7.blk HB6.out hrs)
  have HK7 := hide (HK6.out.trans hk7 (fun i hi h => by have := HWs.out; omega))
  have HS7 := hide hs7
  clear hk7 hs7 HK6 HB6 HS6
  go_wp2_with fail
  refine (stext_q HS7.out G4.out 40 HQ5.out).mono ?_
  rintro e w8 ⟨vr, v8, rfl, hsr, hs8, hk8⟩
  obtain ⟨bo, cap, rfl⟩ := hsr.slice
  have HB8 := hide (hk8.blk HB7.out hrs)
  have HK8 := hide (HK7.out.trans hk8 (fun i hi h => by have := HWs.out; omega))
  have HS8 := hide hs8
  have HSr := hide hsr
  clear hk8 hs8 HK7 HB7 HS7 hsr
  have HRt : Hid (∀ w, Calls Try.prog 66 #[frAgg f (.slice bo T.length cap)] w fun e w' => e = .returned (.bool (rightN f)) ∧ Kept (fun _ => False) w w') := hide (fun w => right_at w f (.slice bo T.length cap) ⟨bo, cap, by rw [Hf.out]⟩)
  obtain ⟨len, hlen⟩ : ∃ len, len = T.length := ⟨_, rfl⟩
  rw [← hlen] at HSr HRt ⊢
  clear hlen
  go_wp2_with (with_reducible refine stop_build 98 ?_)
  refine hide ?_
  refine wpList_run rfl (r_build24 rfl rfl rfl rfl rfl) ?_
  have hfv : [Value.int .i64 n1, .int .i64 n2, .int .i64 n3, .int .i64 n4, .slice bo len cap] = frV f (.slice bo len cap) := by rw [Hf.out]; rfl
  rw [hfv]
  have HSr' : Hid (Src w8 (.slice bo len cap) f.B) := hide (by rw [Hf.out]; exact HSr.out)
  clear hfv Hf HSr
  have HO := hide (frV_one f bo len cap)
  obtain ⟨fl, hfl⟩ : ∃ fl, fl = frV f (.slice bo len cap) := ⟨_, rfl⟩
  have Hfl := hide hfl
  rw [← hfl] at HO ⊢
  have hfl5 : fl.length = 5 := by rw [hfl]; rfl
  have HF5 := hide hfl5
  clear hfl hfl5
  go_wp2_with (first
    | ((with_reducible refine aw_alloc (dst := some 5) Hi.out Hz.out ?_); intro w9 hb9 hk9 hz9)
    | ((with_reducible refine aw_store (x := .tmp 5) (M := fl) Try.agg98 rfl rfl HF5.out HO.out hb9 (by simp [Value.cells]) ?_); intro w10 hw10 hk10 hz10; rw [put_whole _ _ (by rw [HF5.out]; simp [Value.cells])] at hw10)
    | fail)
  have hq8 : r < w8.heap.size := HB8.out.lt
  obtain ⟨q, hq⟩ : ∃ q, q = w8.heap.size := ⟨_, rfl⟩
  rw [← hq] at hw10 hk10 ⊢
  have hqr : q ≠ r := by omega
  have HQ10 : Hid (Blk w10 q (frV f (.slice bo len cap)) 98) := hide (by rw [← Hfl.out]; exact hw10)
  have hk810 : Kept (fun _ => False) w8 w10 := hk9.trans hk10 (fun i hi h => by omega)
  have HB10 := hide (hk810.blk HB8.out (fun h => h))
  have HS10 := hide (HS8.out.kept hk810)
  have HSr10 := hide (HSr'.out.kept hk810)
  have HK10 := hide (HK8.out.trans hk810 (fun _ _ h => h))
  clear hw10 hk10 hz10 hb9 hk9 hz9 hk810 HB8 HS8 HSr' HK8 hq8 hq Hfl HF5 HO
  clear HQ0 HQ1 HQ2 HQ3 HQ4 HQ5 G0 G1 G2 G3 G4 HL HS Hi Hz
  cases hnn : noughtsN B5 E5 with
  | true =>
    have hno : ∀ w0 v8, ScanAt w0 s v8 B5 E5 → Calls Try.prog 93 #[.pointer (some ⟨s, 0, none⟩)] w0 fun e w' => e = .returned (.bool true) ∧ w0 = w' := fun w0 v8 h => by
      have := noughts_at w0 s v8 B5 E5 h G5.out
      rw [hnn] at this
      exact this
    have HNN := hide hnn
    clear hnn
    refine hold_frame (p := fun fr => Code.wp Try.prog _ _ fr _) ?_
    intro fr hfr
    have e2 : fr.eval (.tmp 2) = .pointer (some ⟨r, 0, none⟩) := by rw [hfr.out]; rfl
    have e4 : fr.eval (.tmp 4) = .pointer (some ⟨s, 0, none⟩) := by rw [hfr.out]; rfl
    have e5 : fr.eval (.tmp 5) = .pointer (some ⟨q, 0, none⟩) := by rw [hfr.out]; rfl
    have hts : fr.tmps.size = 28 := by rw [hfr.out]; rfl
    refine region_S0 99 Try.mixed ?_
    intro w0 hkw hheap
    have HBr := hide (hkw.blk HB10.out (fun h => h))
    have HBq := hide (hkw.blk HQ10.out (fun h => h))
    have HSc := hide (HS10.out.kept hkw)
    have HSv := hide (HSr10.out.kept hkw)
    have HK0 := hide (HK10.out.trans hkw (fun _ _ h => h))
    clear HB10 HQ10 HS10 HSr10 HK10
    have hS0 : Kept (fun k => k = r) w0 w0 := Kept.refl (fun k => k = r) w0
    refine ⟨Kept (fun k => k = r) w0, ?_⟩
    refine tkS 0 21 (v := frAgg f (.slice bo len cap)) hS0 rfl rfl (by kernel_rfl) (by kernel_rfl) (by kernel_rfl) (by kernel_rfl) (wanted_none rfl) (fun _ _ _ h => h) (fun U hU => run_load24 (by simp [eval_put_ne, eval_put_eq, size_put, hts, e5]) (hU.blk HBq.out hqr)) ?_
    refine tkS 1 22 (v := .pointer (some ⟨s, 0, none⟩)) hS0 rfl rfl (by kernel_rfl) (by kernel_rfl) (by kernel_rfl) (by kernel_rfl) (wanted_none rfl) (fun _ _ _ h => h) (fun U hU => r_move (by simp [eval_put_ne, eval_put_eq, size_put, hts, e4])) ?_
    refine oneCS 2 23 (by kernel_rfl) rfl rfl (wanted_none rfl) (r_call1 Try.func93 (by kernel_rfl) rfl rfl (by simp [eval_put_ne, eval_put_eq, size_put, hts])) (hno w0 v8 HSc.out) ?_
    rintro e w1 ⟨rfl, rfl⟩
    refine ⟨_, rfl, hS0, ?_⟩
    refine tkS 3 24 (v := .bool true) hS0 rfl rfl (by kernel_rfl) (by kernel_rfl) (by kernel_rfl) (by kernel_rfl) (wanted_none rfl) (fun _ _ _ h => h) (fun U hU => r_move (by simp [eval_put_ne, eval_put_eq, size_put, hts])) ?_
    refine tkS 4 25 (v := frAgg f (.slice bo len cap)) hS0 rfl rfl (by kernel_rfl) (by kernel_rfl) (by kernel_rfl) (by kernel_rfl) (wanted_some (j := 3) (d := 24) (bb := true) rfl rfl rfl (by simp [eval_put_ne, eval_put_eq, size_put, hts]) (by simp [size_put, hts])) (fun _ _ _ h => h) (fun U hU => run_load24 (by simp [eval_put_ne, eval_put_eq, size_put, hts, e5]) (hU.blk HBq.out hqr)) ?_
    refine oneCS 5 26 (by kernel_rfl) rfl rfl (wanted_some (j := 3) (d := 24) (bb := true) rfl rfl rfl (by simp [eval_put_ne, eval_put_eq, size_put, hts]) (by simp [size_put, hts])) (r_call1 Try.func66 (by kernel_rfl) rfl rfl (by simp [eval_put_ne, eval_put_eq, size_put, hts])) (HRt.out w0) ?_
    rintro e w1 ⟨rfl, hk1⟩
    have hS1 : Kept (fun k => k = r) w0 w1 := hk1.mono (fun _ _ h => h.elim)
    refine ⟨_, rfl, hS1, ?_⟩
    refine tkS 6 27 (v := .bool (rightN f)) hS1 rfl rfl (by kernel_rfl) (by kernel_rfl) (by kernel_rfl) (by kernel_rfl) (wanted_none rfl) (fun _ _ _ h => h) (fun U hU => r_pick (by simp [eval_put_ne, eval_put_eq, size_put, hts]) (by simp [eval_put_ne, eval_put_eq, size_put, hts])) ?_
    refine oneKS 7 (by kernel_rfl) rfl rfl (wanted_none rfl) (run_store24 (f := f) (bo := bo) (n := len) (k := cap) (L := frV fr0 (.slice none 0 0)) (by simp [eval_put_ne, eval_put_eq, size_put, hts, e2]) (by simp [eval_put_ne, eval_put_eq, size_put, hts]) (hk1.blk HBr.out (fun h => h)) rfl) (hS1.trans (Kept.setRow (S := fun k => k = r) _ _ _ rfl) (fun _ _ h => h)) ?_
    have hbr := (hk1.blk HBr.out (fun h => h)).setRow (frV f (.slice bo len cap))
    have hkr : Kept (fun k => k = r) w0 (w1.setRow r (frV f (.slice bo len cap)).toArray) := hS1.trans (Kept.setRow (S := fun k => k = r) _ _ _ rfl) (fun _ _ h => h)
    generalize w1.setRow r (frV f (.slice bo len cap)).toArray = w2 at hbr hkr ⊢
    refine oneVS 8 3 (v := .bool (rightN f)) (by kernel_rfl) rfl rfl (wanted_none rfl) (r_assign (by simp [eval_put_ne, eval_put_eq, size_put, hts])) hkr ?_
    refine doneS (by kernel_rfl) ?_
    rw [hfr.out]
    clear hfr e2 e4 e5 hts
    simp only [put_lit, put_none, List.set_cons_succ, List.set_cons_zero]
    have HSv2 := hide (HSv.out.keptBut hkr (nobyte24 HBr.out))
    have HKe := hide (HK0.out.trans hkr (fun i hi h => by have := HWr.out; omega))
    have HBe := hide hbr
    clear hbr hkr HSv HBr HBq HSc
    go_wp2
    refine bodyPost_ret (results_cell2 (t := 2) (u := 3) (ty := 98) rfl Try.agg98 rfl HBe.out rfl) rfl ?_
    refine ⟨_, by rw [HNN.out]; rfl, HSv2.out, HKe.out⟩
  | false =>
    have hno : ∀ w0 v8, ScanAt w0 s v8 B5 E5 → Calls Try.prog 93 #[.pointer (some ⟨s, 0, none⟩)] w0 fun e w' => e = .returned (.bool false) ∧ w0 = w' := fun w0 v8 h => by
      have := noughts_at w0 s v8 B5 E5 h G5.out
      rw [hnn] at this
      exact this
    have HNN := hide hnn
    clear hnn
    refine hold_frame (p := fun fr => Code.wp Try.prog _ _ fr _) ?_
    intro fr hfr
    have e2 : fr.eval (.tmp 2) = .pointer (some ⟨r, 0, none⟩) := by rw [hfr.out]; rfl
    have e4 : fr.eval (.tmp 4) = .pointer (some ⟨s, 0, none⟩) := by rw [hfr.out]; rfl
    have e5 : fr.eval (.tmp 5) = .pointer (some ⟨q, 0, none⟩) := by rw [hfr.out]; rfl
    have hts : fr.tmps.size = 28 := by rw [hfr.out]; rfl
    refine region_S0 99 Try.mixed ?_
    intro w0 hkw hheap
    have HBr := hide (hkw.blk HB10.out (fun h => h))
    have HBq := hide (hkw.blk HQ10.out (fun h => h))
    have HSc := hide (HS10.out.kept hkw)
    have HSv := hide (HSr10.out.kept hkw)
    have HK0 := hide (HK10.out.trans hkw (fun _ _ h => h))
    clear HB10 HQ10 HS10 HSr10 HK10
    have hS0 : Kept (fun k => k = r) w0 w0 := Kept.refl (fun k => k = r) w0
    refine ⟨Kept (fun k => k = r) w0, ?_⟩
    refine tkS 0 21 (v := frAgg f (.slice bo len cap)) hS0 rfl rfl (by kernel_rfl) (by kernel_rfl) (by kernel_rfl) (by kernel_rfl) (wanted_none rfl) (fun _ _ _ h => h) (fun U hU => run_load24 (by simp [eval_put_ne, eval_put_eq, size_put, hts, e5]) (hU.blk HBq.out hqr)) ?_
    refine tkS 1 22 (v := .pointer (some ⟨s, 0, none⟩)) hS0 rfl rfl (by kernel_rfl) (by kernel_rfl) (by kernel_rfl) (by kernel_rfl) (wanted_none rfl) (fun _ _ _ h => h) (fun U hU => r_move (by simp [eval_put_ne, eval_put_eq, size_put, hts, e4])) ?_
    refine oneCS 2 23 (by kernel_rfl) rfl rfl (wanted_none rfl) (r_call1 Try.func93 (by kernel_rfl) rfl rfl (by simp [eval_put_ne, eval_put_eq, size_put, hts])) (hno w0 v8 HSc.out) ?_
    rintro e w1 ⟨rfl, rfl⟩
    refine ⟨_, rfl, hS0, ?_⟩
    refine tkS 3 24 (v := .bool false) hS0 rfl rfl (by kernel_rfl) (by kernel_rfl) (by kernel_rfl) (by kernel_rfl) (wanted_none rfl) (fun _ _ _ h => h) (fun U hU => r_move (by simp [eval_put_ne, eval_put_eq, size_put, hts])) ?_
    refine tkNS 4 25 hS0 rfl rfl (by kernel_rfl) (by kernel_rfl) (by kernel_rfl) (by kernel_rfl) (wanted_not (j := 3) (d := 24) (bb := true) rfl rfl rfl (by simp [eval_put_ne, eval_put_eq, size_put, hts]) (by simp [size_put, hts])) (fun _ _ _ h => h) ?_
    refine tkNS 5 26 hS0 rfl rfl (by kernel_rfl) (by kernel_rfl) (by kernel_rfl) (by kernel_rfl) (wanted_not (j := 3) (d := 24) (bb := true) rfl rfl rfl (by simp [eval_put_ne, eval_put_eq, size_put, hts]) (by simp [size_put, hts])) (fun _ _ _ h => h) ?_
    refine tkS 6 27 (v := .bool false) hS0 rfl rfl (by kernel_rfl) (by kernel_rfl) (by kernel_rfl) (by kernel_rfl) (wanted_none rfl) (fun _ _ _ h => h) (fun U hU => r_pickF (by simp [eval_put_ne, eval_put_eq, size_put, hts]) rfl) ?_
    refine oneKS 7 (by kernel_rfl) rfl rfl (wanted_none rfl) (run_store24 (f := f) (bo := bo) (n := len) (k := cap) (L := frV fr0 (.slice none 0 0)) (by simp [eval_put_ne, eval_put_eq, size_put, hts, e2]) (by simp [eval_put_ne, eval_put_eq, size_put, hts]) HBr.out rfl) (hS0.trans (Kept.setRow (S := fun k => k = r) _ _ _ rfl) (fun _ _ h => h)) ?_
    have hbr := HBr.out.setRow (frV f (.slice bo len cap))
    have hkr : Kept (fun k => k = r) w0 (w0.setRow r (frV f (.slice bo len cap)).toArray) := hS0.trans (Kept.setRow (S := fun k => k = r) _ _ _ rfl) (fun _ _ h => h)
    generalize w0.setRow r (frV f (.slice bo len cap)).toArray = w2 at hbr hkr ⊢
    refine oneVS 8 3 (v := .bool false) (by kernel_rfl) rfl rfl (wanted_none rfl) (r_assign (by simp [eval_put_ne, eval_put_eq, size_put, hts])) hkr ?_
    refine doneS (by kernel_rfl) ?_
    rw [hfr.out]
    clear hfr e2 e4 e5 hts
    simp only [put_lit, put_none, List.set_cons_succ, List.set_cons_zero]
    have HSv2 := hide (HSv.out.keptBut hkr (nobyte24 HBr.out))
    have HKe := hide (HK0.out.trans hkr (fun i hi h => by have := HWr.out; omega))
    have HBe := hide hbr
    clear hbr hkr HSv HBr HBq HSc
    go_wp2
    refine bodyPost_ret (results_cell2 (t := 2) (u := 3) (ty := 98) rfl Try.agg98 rfl HBe.out rfl) rfl ?_
    refine ⟨_, by rw [HNN.out]; rfl, HSv2.out, HKe.out⟩
end Go.Proofs.Ytbbhchmdggfncaa


/-
  Get.
-/
namespace Go.Proofs.Ytbbhchmdggfncaa
open Go.RowKit Go.Shelf
set_option linter.unusedSimpArgs false
set_option linter.unusedVariables false
set_option maxRecDepth 100000

theorem built24_0 : Try.prog.built 98 [] = some #[.int .i64 0, .int .i64 0, .int .i64 0, .int .i64 0, .slice none 0 0] := by rfl
theorem r_build24_0 {ρ : Operand → Value} {w : World} {dst : Option Tmp} {ty : TypeId} {pos : String} {aft : Array Edge} {gd : Option (Nat × Bool)} :
    (execOp ρ ⟨dst, .build 98 #[], ty, pos, aft, gd⟩).run Try.prog w = .ok (.value (.agg (frV fr0 (.slice none 0 0)).toArray)) w := by
  have hr := run_build (P := Try.prog) w 98 #[] _ (by simpa using built24_0)
  simp [execOp, hr, frV, fr0]
theorem Src.hi {w : World} {sb so len cap : Nat} {b : List Nat} (h : Src w (.slice (some ⟨sb, so, none⟩) len cap) b) (n : Nat) (hn : n ≤ len) : Src w (.slice (some ⟨sb, so, none⟩) n cap) (b.take n) := by
  obtain ⟨bo, c, e, h1, h2, h3, h4⟩ := h
  cases e
  have hl : (b.take n).length = n := by simp; omega
  refine ⟨some ⟨sb, so, none⟩, cap, by rw [hl], by omega, fun x hx => h2 x (List.mem_of_mem_take hx), fun hp => ?_, fun h => by cases h⟩
  obtain ⟨sb', so', e, hc⟩ := h3 (by omega)
  cases e
  refine ⟨sb, so, rfl, ?_⟩
  have := hc.part 0 n
  rw [List.drop_zero, Nat.add_zero, ← BV_take] at this
  exact this

theorem getN_a {b : List Nat} (h : b.length ≠ 64) : getN b = (fr0, 20) := by unfold getN; rw [if_pos (.inl h)]
theorem getN_b {b : List Nat} (h : (scanNum b 0 2).1 ≠ 46878) : getN b = (fr0, 20) := by unfold getN; rw [if_pos (.inr h)]
theorem getN_c {b : List Nat} (h : b.length = 64) (h2 : (scanNum b 0 2).1 = 46878) (h3 : goodN b = false) : getN b = (fr0, 21) := by unfold getN; rw [if_neg (by simp [h, h2]), if_pos h3]
theorem getN_d {b : List Nat} (h : b.length = 64) (h2 : (scanNum b 0 2).1 = 46878) (h3 : goodN b = true) (h4 : (readN (b.take 60)).2 = false) : getN b = (fr0, 20) := by unfold getN; rw [if_neg (by simp [h, h2]), if_neg (by simp [h3]), if_neg (by simp [h4])]
theorem getN_e {b : List Nat} (h : b.length = 64) (h2 : (scanNum b 0 2).1 = 46878) (h3 : goodN b = true) (h4 : (readN (b.take 60)).2 = true) : getN b = ((readN (b.take 60)).1, 0) := by unfold getN; rw [if_neg (by simp [h, h2]), if_neg (by simp [h3]), if_pos h4]

set_option maxRecDepth 100000 in
set_option maxHeartbeats 4000000 in
theorem get_at (w : World) (v : Value) (b : List Nat) (hs : Src w v b) (hl : b.length ≤ 90000000) :
    Calls Try.prog 63 #[v] w fun e w' => ∃ vb, e = .returned (.tuple #[frAgg (getN b).1 vb, .int .i64 (getN b).2]) ∧ Src w' vb (getN b).1.B ∧ Kept (fun _ => False) w w' := by
  obtain ⟨i24, hi24, hz24, hs24, hb24⟩ := info_parts Try.info98
  have Hi := hide hi24
  have Hz := hide hz24
  have HO := hide (frV_one fr0 none 0 0)
  clear hi24 hz24 hs24 hb24
  by_cases h64 : b.length = 64
  case neg =>
    rw [getN_a h64]
    obtain ⟨bo, cap, rfl⟩ := hs.slice
    have hlen : ((b.length : Int) != 64) = true := by simp; omega
    obtain ⟨len, hle⟩ : ∃ len, len = b.length := ⟨_, rfl⟩
    rw [← hle] at hlen ⊢
    clear hs hl h64 hle
    go_enter Try.func63, Try.ntmps63
    go_wp2_with (first
      | ((with_reducible refine aw_alloc (dst := some 2) Hi.out Hz.out ?_); intro w1 hb1 hk1 hz1)
      | ((with_reducible refine wpList_run rfl r_build24_0 ?_))
      | ((with_reducible refine aw_store (x := .tmp 2) (M := frV fr0 (.slice none 0 0)) Try.agg98 rfl rfl rfl HO.out hb1 (by simp [Value.cells]) ?_); intro w2 hw2 hk2 hz2; rw [put_whole _ _ (by simp [Value.cells, frV])] at hw2)
      | fail)
    refine bodyPost_ret (results_cell2 (t := 2) (u := 3) (ty := 98) rfl Try.agg98 rfl hw2 rfl) rfl ?_
    exact ⟨_, rfl, Src.nil _, hk1.trans hk2 (fun i hi h => by omega)⟩
  case pos =>
  obtain ⟨bo, cap, rfl, hcap, hbyte, hsrc, hnil⟩ := hs
  obtain ⟨sb, so, rfl, hcs⟩ := hsrc (by omega)
  have hS : Src w (.slice (some ⟨sb, so, none⟩) 64 cap) b := ⟨_, cap, by rw [h64], hcap, hbyte, fun _ => ⟨sb, so, rfl, hcs⟩, fun h => by cases h⟩
  rw [h64] at hcap ⊢
  have HS := hide hS
  have H64 := hide h64
  have hl9 : Hid (b.length ≤ 90000000) := hide hl
  obtain ⟨n0, B0, E0, q0⟩ : ∃ n B E, scanNum b 0 2 = (n, B, E) := ⟨_, _, _, rfl⟩
  have HQ0 := hide q0
  have hn0 : (scanNum b 0 2).1 = n0 := by rw [q0]
  have HN0 := hide hn0
  clear hbyte hsrc hnil hcs hS hl h64 q0 hn0
  by_cases h46 : n0 = 46878
  case neg =>
    rw [getN_b (by rw [HN0.out]; exact h46)]
    have hne : (n0 != 46878) = true := by simpa using h46
    clear h46 HN0
    go_enter Try.func63, Try.ntmps63
    go_wp2_with (first
      | ((with_reducible refine aw_alloc (dst := some 2) Hi.out Hz.out ?_); intro w1 hb1 hk1 hz1)
      | fail)
    refine (new_at w1 _ b (HS.out.kept hk1) hl9.out).mono ?_
    rintro e w2 ⟨s, v2, rfl, hs2, hk2, hsz2⟩
    have HS2 := hide hs2
    clear hs2
    go_wp2_with fail
    refine (snum_q HS2.out hl9.out 2 HQ0.out).mono ?_
    rintro e w3 ⟨v3, rfl, hs3, hk3⟩
    have hb3 := hk3.blk (hk2.blk hb1 (fun h => h)) (by omega)
    have HK3 := hide ((hk1.trans hk2 (fun _ _ h => h)).trans hk3 (fun i hi h => by omega))
    clear hs3 hk3 hk2 hsz2 HS2 hb1 hk1 hz1
    go_wp2_with (first
      | ((with_reducible refine wpList_run rfl r_build24_0 ?_))
      | ((with_reducible refine aw_store (x := .tmp 2) (M := frV fr0 (.slice none 0 0)) Try.agg98 rfl rfl rfl HO.out hb3 (by simp [Value.cells]) ?_); intro w4 hw4 hk4 hz4; rw [put_whole _ _ (by simp [Value.cells, frV])] at hw4)
      | fail)
    refine bodyPost_ret (results_cell2 (t := 2) (u := 3) (ty := 98) rfl Try.agg98 rfl hw4 rfl) rfl ?_
    exact ⟨_, rfl, Src.nil _, HK3.out.trans hk4 (fun i hi h => by omega)⟩
  case pos =>
  subst h46
  cases hg : goodN b with
  | false =>
    rw [getN_c H64.out HN0.out hg]
    have HG : Hid (goodN b = false) := hide hg
    clear hg
    go_enter Try.func63, Try.ntmps63
    go_wp2_with (first
      | ((with_reducible refine aw_alloc (dst := some 2) Hi.out Hz.out ?_); intro w1 hb1 hk1 hz1)
      | fail)
    refine (new_at w1 _ b (HS.out.kept hk1) hl9.out).mono ?_
    rintro e w2 ⟨s, v2, rfl, hs2, hk2, hsz2⟩
    have HS2 := hide hs2
    clear hs2
    go_wp2_with fail
    refine (snum_q HS2.out hl9.out 2 HQ0.out).mono ?_
    rintro e w3 ⟨v3, rfl, hs3, hk3⟩
    have hb3 := hk3.blk (hk2.blk hb1 (fun h => h)) (by omega)
    have HK3 := hide ((hk1.trans hk2 (fun _ _ h => h)).trans hk3 (fun i hi h => by omega))
    clear hs3 hk3 hk2 hsz2 HS2 hb1 hk1 hz1
    go_wp2_with fail
    have hG := good_at w3 _ b (HS.out.kept HK3.out) (by rw [H64.out]; decide)
    rw [HG.out] at hG
    refine hG.mono ?_
    rintro e w4 ⟨rfl, hk4⟩
    have hb4 := hk4.blk hb3 (fun h => h)
    have HK4 := hide (HK3.out.trans hk4 (fun _ _ h => h))
    clear hG hk4 hb3 HK3
    go_wp2_with (first
      | ((with_reducible refine wpList_run rfl r_build24_0 ?_))
      | ((with_reducible refine aw_store (x := .tmp 2) (M := frV fr0 (.slice none 0 0)) Try.agg98 rfl rfl rfl HO.out hb4 (by simp [Value.cells]) ?_); intro w5 hw5 hk5 hz5; rw [put_whole _ _ (by simp [Value.cells, frV])] at hw5)
      | fail)
    refine bodyPost_ret (results_cell2 (t := 2) (u := 3) (ty := 98) rfl Try.agg98 rfl hw5 rfl) rfl ?_
    exact ⟨_, rfl, Src.nil _, HK4.out.trans hk5 (fun i hi h => by omega)⟩
  | true =>
  obtain ⟨f, hf⟩ : ∃ f, f = (readN (b.take 60)).1 := ⟨_, rfl⟩
  obtain ⟨g, hgd⟩ : ∃ g, g = (readN (b.take 60)).2 := ⟨_, rfl⟩
  have Hget : Hid (getN b = if g = true then (f, 0) else (fr0, 20)) := hide (by
    cases g with
    | true => rw [getN_e H64.out HN0.out hg hgd.symm, ← hf]; rfl
    | false => rw [getN_d H64.out HN0.out hg hgd.symm]; rfl)
  have HG : Hid (goodN b = true) := hide hg
  have Hrd : Hid (∀ w3, Src w3 (.slice (some ⟨sb, so, none⟩) 60 cap) (b.take 60) → Calls Try.prog 81 #[.slice (some ⟨sb, so, none⟩) 60 cap] w3 fun e w' => ∃ vb, e = .returned (.tuple #[frAgg f vb, .bool g]) ∧ Src w' vb f.B ∧ Kept (fun _ => False) w3 w') := hide (fun w3 h3 => by
    rw [hf, hgd]
    exact read_at w3 _ _ h3 (by rw [List.length_take]; have := hl9.out; omega))
  clear hg hf hgd
  go_enter Try.func63, Try.ntmps63
  go_wp2_with (first
    | ((with_reducible refine aw_alloc (dst := some 2) Hi.out Hz.out ?_); intro w1 hb1 hk1 hz1)
    | fail)
  refine (new_at w1 _ b (HS.out.kept hk1) hl9.out).mono ?_
  rintro e w2 ⟨s, v2, rfl, hs2, hk2, hsz2⟩
  have HS2 := hide hs2
  clear hs2
  go_wp2_with fail
  refine (snum_q HS2.out hl9.out 2 HQ0.out).mono ?_
  rintro e w3 ⟨v3, rfl, hs3, hk3⟩
  have hb3 := hk3.blk (hk2.blk hb1 (fun h => h)) (by omega)
  have HK3 := hide ((hk1.trans hk2 (fun _ _ h => h)).trans hk3 (fun i hi h => by omega))
  clear hs3 hk3 hk2 hsz2 HS2 hb1 hk1 hz1
  go_wp2_with fail
  have hG := good_at w3 _ b (HS.out.kept HK3.out) (by rw [H64.out]; decide)
  rw [HG.out] at hG
  refine hG.mono ?_
  rintro e w4 ⟨rfl, hk4⟩
  have hb4 := hk4.blk hb3 (fun h => h)
  have HK4 := hide (HK3.out.trans hk4 (fun _ _ h => h))
  clear hG hk4 hb3 HK3
  go_wp2_with (with_reducible refine stop_slice 22 ?_)
  refine hide ?_
  refine wpList_run rfl (r_hi22 60 rfl rfl (by omega)) ?_
  have HR := hide (Hrd.out w4 ((HS.out.kept HK4.out).hi 60 (by decide)))
  go_wp2_with fail
  refine HR.out.mono ?_
  rintro e w5 ⟨vb, rfl, hsv, hk5⟩
  obtain ⟨bo, cb, rfl⟩ := hsv.slice
  have hb5 := hk5.blk hb4 (fun h => h)
  have HK5 := hide (HK4.out.trans hk5 (fun _ _ h => h))
  have HSv := hide hsv
  have hr5 : w.heap.size < w5.heap.size := hb5.lt
  obtain ⟨len, hlen⟩ : ∃ len, len = f.B.length := ⟨_, rfl⟩
  rw [← hlen] at HSv ⊢
  have HOf := hide (frV_one f bo len cb)
  clear hb4 hk5 hsv HR Hrd HK4 hlen
  cases g with
  | false =>
    have Hget2 : Hid (getN b = (fr0, 20)) := hide (by rw [Hget.out]; rfl)
    go_wp2_with (first
      | ((with_reducible refine aw_alloc (dst := some 4) Hi.out Hz.out ?_); intro w6 hb6 hk6 hz6)
      | ((with_reducible refine aw_store (x := .tmp 4) (M := frV f (.slice bo len cb)) Try.agg98 rfl rfl rfl HOf.out hb6 (by simp [Value.cells]) ?_); intro w7 hw7 hk7 hz7; rw [put_whole _ _ (by simp [Value.cells, frV])] at hw7; have hb7 := hk7.blk (hk6.blk hb5 (fun h => h)) (by omega))
      | ((with_reducible refine wpList_run rfl r_build24_0 ?_))
      | ((with_reducible refine aw_store (x := .tmp 2) (M := frV fr0 (.slice none 0 0)) Try.agg98 rfl rfl rfl HO.out hb7 (by simp [Value.cells]) ?_); intro w8 hw8 hk8 hz8; rw [put_whole _ _ (by simp [Value.cells, frV])] at hw8)
      | fail)
    refine bodyPost_ret (results_cell2 (t := 2) (u := 3) (ty := 98) rfl Try.agg98 rfl hw8 rfl) rfl ?_
    rw [Hget2.out]
    exact ⟨_, rfl, Src.nil _, ((HK5.out.trans hk6 (fun _ _ h => h)).trans hk7 (fun i hi h => by omega)).trans hk8 (fun i hi h => by omega)⟩
  | true =>
    have Hget2 : Hid (getN b = (f, 0)) := hide (by rw [Hget.out]; rfl)
    go_wp2_with (first
      | ((with_reducible refine aw_alloc (dst := some 4) Hi.out Hz.out ?_); intro w6 hb6 hk6 hz6)
      | ((with_reducible refine aw_store (x := .tmp 4) (M := frV f (.slice bo len cb)) Try.agg98 rfl rfl rfl HOf.out hb6 (by simp [Value.cells]) ?_); intro w7 hw7 hk7 hz7; rw [put_whole _ _ (by simp [Value.cells, frV])] at hw7; have hb7 := hk7.blk (hk6.blk hb5 (fun h => h)) (by omega))
      | (with_reducible refine aw_load (x := .tmp 4) (M := frV f (.slice bo len cb)) Try.agg98 rfl hw7 (by simp [frV]) rfl ?_)
      | ((with_reducible refine aw_store (x := .tmp 2) (M := frV f (.slice bo len cb)) Try.agg98 rfl rfl rfl HOf.out hb7 (by simp [Value.cells]) ?_); intro w8 hw8 hk8 hz8; rw [put_whole _ _ (by simp [Value.cells, frV])] at hw8)
      | fail)
    refine bodyPost_ret (results_cell2 (t := 2) (u := 3) (ty := 98) rfl Try.agg98 rfl hw8 rfl) rfl ?_
    rw [Hget2.out]
    refine ⟨_, rfl, ?_, ((HK5.out.trans hk6 (fun _ _ h => h)).trans hk7 (fun i hi h => by omega)).trans hk8 (fun i hi h => by omega)⟩
    have hk67 : Kept (fun _ => False) w5 w7 := hk6.trans hk7 (fun i hi h => by omega)
    exact (HSv.out.kept hk67).keptBut hk8 (fun q hq => nobyte24 (f := fr0) (bo := none) (n := 0) (k := 0) hb7 q hq)
end Go.Proofs.Ytbbhchmdggfncaa


/-
  Sectors, Spread.
-/
namespace Go.Proofs.Ytbbhchmdggfncaa
open Go.RowKit Go.Shelf
set_option linter.unusedSimpArgs false
set_option linter.unusedVariables false
set_option maxRecDepth 100000

section
variable {P : Program} {ops : Array Oper} {Q : Exit → Act → World → Prop} {a : Act} {w : World} {rest : List Oper} {dst : Option Tmp} {ty : TypeId} {pos : String} {aft : Array Edge} {x y z : Operand}
theorem stop_min (h : Hid (wpList P ops Q (⟨dst, .call { callee := .builtin .min, args := #[x, y], argTypes := #[3, 3] }, ty, pos, aft, none⟩ :: rest) a w)) : wpList P ops Q (⟨dst, .call { callee := .builtin .min, args := #[x, y], argTypes := #[3, 3] }, ty, pos, aft, none⟩ :: rest) a w := h.out
end
section
variable {ρ : Operand → Value} {w : World} {dst : Option Tmp} {ty : TypeId} {pos : String} {aft : Array Edge} {gd : Option (Nat × Bool)} {x y z : Operand}
theorem r_min3 {p q r : Int} (hx : ρ x = .int .i64 p) (hy : ρ y = .int .i64 q) (hr : min p q = r) : (execOp ρ ⟨dst, .call { callee := .builtin .min, args := #[x, y], argTypes := #[3, 3] }, ty, pos, aft, gd⟩).run Try.prog w = .ok (.value (.int .i64 r)) w := by
  subst hr
  by_cases h : p < q
  · go_simp
    omega
  · go_simp
    omega
theorem r_mid0 {bo : Option Addr} {cap : Nat} {k j : IntKind} (hn : bo = none → cap = 0) (hx : ρ x = .slice bo 0 cap) (hy : ρ y = .int k 0) (hz : ρ z = .int j 0) :
    (execOp ρ ⟨dst, .slice 22 x (some y) (some z) none, ty, pos, aft, gd⟩).run Try.prog w = .ok (.value (.slice bo 0 cap)) w := by
  obtain ⟨i5, hi5, hz5, hs5, hb5⟩ := info_parts Try.info5
  cases bo with
  | none =>
    obtain rfl := hn rfl
    simp [execOp, Instr.sliceAt, run_underlying Try.underlying22, Instr.slice, hx, hy, hz, Instr.sliceBounds, Instr.sliceBound, asIntOf, sizeOf, typeInfo, hi5, hs5]
  | some ad =>
    by_cases hc : cap = 0
    · subst hc
      simp [execOp, Instr.sliceAt, run_underlying Try.underlying22, Instr.slice, hx, hy, hz, Instr.sliceBounds, Instr.sliceBound, asIntOf, sizeOf, typeInfo, hi5, hs5]
    · simp [execOp, Instr.sliceAt, run_underlying Try.underlying22, Instr.slice, hx, hy, hz, Instr.sliceBounds, Instr.sliceBound, asIntOf, sizeOf, typeInfo, hi5, hs5, hc, Addr.add]
end
/-- A slice from l to h, of any slice. -/
theorem aw_midG {ops : Array Oper} {Q : Exit → Act → World → Prop} {a : Act} {rest : List Oper} {w : World} {dst : Option Tmp} {ty : TypeId} {pos : String} {aft : Array Edge} {x y z : Operand} {bo : Option Addr} {len cap : Nat} {B : List Nat} (l h : Nat) {k j : IntKind} (hx : a.eval x = .slice bo len cap) (hy : a.eval y = .int k l) (hz : a.eval z = .int j h) (hB : B.length = len) (hs : Src w (.slice bo len cap) B) (hl : l ≤ h) (hh : h ≤ len)
    (hn : ∀ bo', Src w (.slice bo' (h - l) (cap - l)) ((B.drop l).take (h - l)) → wpList Try.prog ops Q rest (a.put dst (.slice bo' (h - l) (cap - l))) w) : wpList Try.prog ops Q (⟨dst, .slice 22 x (some y) (some z) none, ty, pos, aft, none⟩ :: rest) a w := by
  by_cases h0 : 0 < len
  · obtain ⟨bo', c, e, h1, h2, h3, h4⟩ := hs
    cases e
    obtain ⟨sb, so, rfl, hc⟩ := h3 (by omega)
    exact aw_mid25 (B := B) l h hx hy hz hB ⟨_, _, by rw [hB], h1, h2, fun _ => ⟨sb, so, rfl, hc⟩, h4⟩ hl hh (fun so' hs' => hn _ hs')
  · obtain rfl : h = 0 := by omega
    obtain rfl : l = 0 := by omega
    obtain rfl : len = 0 := by omega
    obtain rfl : B = [] := List.eq_nil_of_length_eq_zero hB
    have hs' := hs
    obtain ⟨bo', c, e, h1, h2, h3, h4⟩ := hs
    cases e
    refine wpList_run rfl (r_mid0 h4 hx hy hz) ?_
    have := hn bo (by simpa using hs')
    simpa using this

set_option maxHeartbeats 1000000 in
theorem sectors_at (w : World) (n : Nat) (hn : n ≤ 2621400) : Calls Try.prog 55 #[.int .i64 n] w fun e w' => e = .returned (.int .i64 (sectN n : Nat)) ∧ w = w' := by
  obtain ⟨d, hd⟩ : ∃ d, d = (n + 39) / 40 := ⟨_, rfl⟩
  have hd1 : ((n : Int) + 40 - 1) / 40 = d := by omega
  have hd2 : ((n : Int) + 40 - 1).tdiv 40 = d := by rw [Int.tdiv_eq_ediv_of_nonneg (by omega)]; exact hd1
  have hd3 : ((n : Int) + 39) / 40 = d := by omega
  have hd4 : ((n : Int) + 39).tdiv 40 = d := by rw [Int.tdiv_eq_ediv_of_nonneg (by omega)]; exact hd3
  have Hs : Hid (sectN n = max 1 d) := hide (by unfold sectN; rw [hd])
  have hdl : d ≤ 65535 := by omega
  have HW := hide (within_at w n 2621400 true (by simp; omega))
  clear hd
  obtain ⟨c, hc⟩ : ∃ c, c = sectN n := ⟨_, rfl⟩
  rw [← hc] at Hs ⊢
  clear hc
  go_enter Try.func55, Try.ntmps55
  go_wp2_with fail
  refine HW.out.mono ?_
  rintro e w1 ⟨rfl, rfl⟩
  by_cases h1 : 1 ≤ d
  · have h1' : ¬ (d : Int) < 1 := by omega
    go_wp2 <;> (go_ret; refine ⟨?_, rfl⟩; have := Hs.out; simp; omega)
  · have h1' : (d : Int) < 1 := by omega
    go_wp2 <;> (go_ret; refine ⟨?_, rfl⟩; have := Hs.out; simp; omega)

theorem flat_snoc (lsn : Int) (ep : Nat → Int) (body : List Nat) (k : Nat) : (((List.range (k + 1)).map (fun i => putN (frameAt lsn (ep i) body i))).flatten) = ((List.range k).map (fun i => putN (frameAt lsn (ep i) body i))).flatten ++ putN (frameAt lsn (ep k) body k) := by
  rw [List.range_succ, List.map_append, List.flatten_append]
  simp
theorem flat_k (lsn : Int) (ep : Nat → Int) (body : List Nat) (k : Nat) : (((List.range k).map (fun i => putN (frameAt lsn (ep i) body i))).flatten).length = 64 * k := by
  rw [flat_len]
  · simp
  · intro x hx
    simp only [List.mem_map] at hx
    obtain ⟨i, _, rfl⟩ := hx
    exact putN_length _ (by simp [frameAt]; omega)
theorem Own.base {w : World} {base : Nat} {v : Value} {A : List Nat} (h : Own w base v A) : ∀ k, v.ownBlock = some k → base ≤ k := fun k hk => (h.1.lt k hk).1
theorem Own.slice {w : World} {base : Nat} {v : Value} {A : List Nat} (h : Own w base v A) : ∃ bo cap, v = .slice bo A.length cap := h.src.slice

set_option maxRecDepth 100000 in
set_option maxHeartbeats 4000000 in
theorem spread_at (w : World) (lsn ep : Int) (vb : Value) (body : List Nat) (hs : Src w vb body) (hl : LsnOk lsn body.length) (hep : 0 ≤ ep ∧ ep ≤ 4294967295) :
    Calls Try.prog 45 #[.int .i64 lsn, .int .i64 ep, vb] w fun e w' => ∃ v, e = .returned v ∧ Own w' w.heap.size v (sectorsOf lsn (fun _ => ep) body).flatten ∧ Kept (fun _ => False) w w' := by
  have hl1 := hl.1
  have hl2 := hl.2.1
  have hl3 := hl.2.2
  have hb := sectN_bounds hl.2.2
  have HSec := hide (sectors_at w body.length hl.2.2)
  have hsec : sectorsOf lsn (fun _ => ep) body = (List.range (sectN body.length)).map (fun i => putN (frameAt lsn ep body i)) := rfl
  rw [hsec]
  clear hsec
  obtain ⟨fs, hfs⟩ : ∃ fs : Nat → List Nat, fs = fun k => ((List.range k).map (fun i => putN (frameAt lsn ep body i))).flatten := ⟨_, rfl⟩
  have hf0 : fs 0 = [] := by rw [hfs]; rfl
  have hfl : ∀ k, (fs k).length = 64 * k := fun k => by rw [hfs]; exact flat_k lsn (fun _ => ep) body k
  have hfn : ∀ k, fs (k + 1) = fs k ++ putN (frameAt lsn ep body k) := fun k => by rw [hfs]; exact flat_snoc lsn (fun _ => ep) body k
  have hput : ∀ (k : Nat) (w1 : World) (bo : Option Addr) (h c : Nat), Kept (fun _ => False) w w1 → k < sectN body.length → h = min (40 * k + 40) body.length → Src w1 (.slice bo (h - 40 * k) c) ((body.drop (40 * k)).take (h - 40 * k)) →
      Calls Try.prog 56 #[.agg #[.int .i64 (lsn + k), .int .i64 ep, .int .i64 k, .int .i64 (sectN body.length : Nat), .slice bo (h - 40 * k) c]] w1 fun e w' => ∃ g, e = .returned (.slice (some ⟨g, 0, none⟩) 64 64) ∧ Src w' (.slice (some ⟨g, 0, none⟩) 64 64) (putN (frameAt lsn ep body k)) ∧ Kept (fun _ => False) w1 w' := by
    intro k w1 bo h c hk1 hk hh hs1
    have e1 : (body.drop (40 * k)).take (h - 40 * k) = (frameAt lsn ep body k).B := by
      show _ = (body.drop (40 * k)).take 40
      rw [List.take_eq_take_iff]
      simp
      omega
    rw [e1] at hs1
    refine (put_at w1 (frameAt lsn ep body k) (.slice bo (h - 40 * k) c) hs1 (frameAt_right hl hep hk)).mono ?_
    rintro e w2 ⟨g, rfl, hb2, hg2, hk2⟩
    refine ⟨g, rfl, ?_, hk2⟩
    have hpl : (putN (frameAt lsn ep body k)).length = 64 := putN_length _ (by simp [frameAt]; omega)
    have := hb2.src (B := putN (frameAt lsn ep body k)) (cap := 64) (by rw [hpl, List.take_of_length_le (by rw [BV_length, hpl]; exact Nat.le_refl _)]) (putN_lt _ (by simp [frameAt]; omega) (frameAt_B hs.lt)) (by rw [hpl]; exact Nat.le_refl _)
    rw [hpl] at this
    exact this
  have hfin : ((List.range (sectN body.length)).map (fun i => putN (frameAt lsn ep body i))).flatten = fs (sectN body.length) := by rw [hfs]
  rw [hfin]
  clear hfin hfs
  have HS := hide hs
  obtain ⟨bo, cap, rfl⟩ := hs.slice
  have Hput := hide hput
  have Hf0 := hide hf0
  have Hfl := hide hfl
  have Hfn := hide hfn
  obtain ⟨c, hc⟩ : ∃ c, c = sectN body.length := ⟨_, rfl⟩
  rw [← hc] at HSec hl2 hb Hput ⊢
  obtain ⟨len, hlen⟩ : ∃ len, len = body.length := ⟨_, rfl⟩
  rw [← hlen] at HSec hl3 hb Hput HS ⊢
  have Hlen := hide hlen
  clear hput hf0 hfl hfn hs hl hc hlen
  obtain ⟨hc1, hc2, hc3, hc4⟩ := hb
  go_enter Try.func45, Try.ntmps45
  go_wp2_with fail
  refine HSec.out.mono ?_
  rintro e w1 ⟨rfl, rfl⟩
  go_wp2
  go_loopw [8, 16] (fun o i wr => ∃ (k : Nat) (oa : Option Addr) (oc : Nat), i = .int .i64 k ∧ k ≤ c ∧ o = .slice oa (64 * k) oc ∧ Hid (Own wr w.heap.size o (fs k)) ∧ Hid (Kept (fun _ => False) w wr)) (fun _ i _ => c - (intOf i).toNat)
  case atStart => exact ⟨0, none, 0, rfl, Nat.zero_le _, rfl, hide (by rw [Hf0.out]; exact Own.nil _ _), hide (Kept.refl _ _)⟩
  case round =>
    obtain ⟨k, oa, oc, rfl, hk, rfl, hO, hK⟩ := hrel
    by_cases hlt : k < c
    · go_wp2_with (with_reducible refine stop_min ?_)
      refine hide ?_
      obtain ⟨h, hh⟩ : ∃ h, h = min (40 * k + 40) len := ⟨_, rfl⟩
      have hkl : 40 * k ≤ len := by omega
      refine wpList_run rfl (r_min3 (r := (h : Nat)) rfl rfl (by omega)) ?_
      have Hh := hide hh
      have hh1 : 40 * k ≤ h := by omega
      have hh2 : h ≤ len := by omega
      clear hh
      go_wp2_with (with_reducible refine stop_slice 22 ?_)
      refine hide ?_
      refine aw_midG (B := body) (k := .i64) (j := .i64) (40 * k) h rfl (by simp [Act.eval]; omega) rfl Hlen.out.symm (HS.out.kept hK.out) hh1 hh2 ?_
      intro bo2 hs2
      have HP := hide (Hput.out k wr bo2 h (cap - 40 * k) hK.out hlt Hh.out hs2)
      clear hs2
      obtain ⟨hx, hhx⟩ : ∃ hx, hx = h - 40 * k := ⟨_, rfl⟩
      obtain ⟨cx, hcx⟩ : ∃ cx, cx = cap - 40 * k := ⟨_, rfl⟩
      rw [← hhx, ← hcx] at HP ⊢
      clear hhx hcx
      go_wp2_with (with_reducible refine stop_build 98 ?_)
      refine hide ?_
      refine wpList_run rfl (r_build24 (a := lsn + k) rfl rfl rfl rfl rfl) ?_
      go_wp2_with fail
      refine HP.out.mono ?_
      rintro e w2 ⟨g, rfl, hs2, hk2⟩
      have hO2 := hO.out.kept hk2 (fun _ _ h => h)
      obtain ⟨v3, w3, hrun, hO3, hk3, hm3⟩ := append_src (ty := 22) hO2 hs2 (by rw [Hfl.out, putN_length _ (by simp [frameAt]; omega)]; omega) (by have := hK.out.size; have := hk2.size; omega)
      rw [← Hfn.out] at hO3
      obtain ⟨oa3, oc3, hv3⟩ := hO3.slice
      rw [Hfl.out] at hv3
      have HK3 := hide ((hK.out.trans hk2 (fun _ _ h => h)).trans hk3 (fun i hi h => by have := hO2.base i h; omega))
      have HO3 := hide hO3
      have HV3 := hide hv3
      have Hrun := hide hrun
      clear hO2 hs2 hrun hO3 hk3 hm3 hv3 hk2 HP
      go_wp2_with (with_reducible refine stop_append 22 ?_)
      refine hide ?_
      refine wpList_run rfl (r_append25 rfl rfl Hrun.out) ?_
      go_wp2
      go_roundw
      case rel => exact ⟨k + 1, oa3, oc3, by simp, by omega, HV3.out, HO3, HK3⟩
      case measure => simp [intOf]; omega
    · obtain rfl : c = k := by omega
      go_wp2
      go_ret
      exact ⟨_, rfl, hO.out, hK.out⟩
end Go.Proofs.Ytbbhchmdggfncaa
