/-
  Put.
-/
import Derived.Test.YtapoagpkjngjpaaFrT
namespace Go.Proofs.Ytapoagpkjngjpaa
open Go.RowKit Go.Shelf
set_option linter.unusedSimpArgs false
set_option linter.unusedVariables false
set_option maxRecDepth 100000

theorem number_fit (w0 w : World) (p : Nat) (A A' : List Nat) (hp : Pn w0 w p A) (hl : A.length ≤ 90000000) (n : Int) (m : Nat) (hn : n ≤ 9223372036854775807) (hf : fitsN n m = true) (hA : A' = A ++ numB n.toNat m) :
    Calls Try.prog 29 #[.pointer (some ⟨p, 0, none⟩), .int .i64 n, .int .i64 m] w fun e w' => e = .returned (.bool true) ∧ Pn w0 w' p A' := by
  refine (number_pn w0 w p A hp hl n m hn).mono ?_
  rintro e w' ⟨rfl, h⟩
  rw [hf]
  refine ⟨rfl, ?_⟩
  unfold penNum at h
  rw [if_pos hf] at h
  rw [hA]
  exact h

theorem fits_fr {n : Int} {m : Nat} (h1 : 1 ≤ m) (h8 : m ≤ 8) (h0 : 0 ≤ n) (h : n.toNat < 256 ^ m) : fitsN n m = true := by
  unfold fitsN
  simp only [decide_eq_true_eq, Int.toNat_natCast]
  exact ⟨by omega, by omega, h0, h⟩

set_option maxRecDepth 100000 in
set_option maxHeartbeats 4000000 in
theorem put_no (w : World) (f : Fr) (vb : Value) (hs : ∃ bo cap, vb = .slice bo f.B.length cap) (hr : rightN f = false) :
    Calls Try.prog 30 #[frAgg f vb] w fun e w' => e = .returned (.slice none 0 0) ∧ Kept (fun _ => False) w w' := by
  unfold frAgg
  go_enter Try.func30, Try.ntmps30
  go_wp2_with (first
    | ((with_reducible refine aw_box (t := 51) (v := .agg #[.int .i64 f.lsn, .int .i64 f.ep, .int .i64 f.ix, .int .i64 f.ct, vb]) rfl ?_); intro w1 hb1 hk1 hz1)
    | (with_reducible refine aw_load (x := .tmp 1) (M := frV f vb) Try.agg51 rfl hb1 (by simp [Value.cells]) rfl ?_)
    | fail)
  have hR := right_at w1 f vb hs
  rw [hr] at hR
  refine hR.mono ?_
  rintro e w2 ⟨rfl, hk2⟩
  go_wp2
  go_ret
  exact ⟨rfl, hk1.trans hk2 (fun _ _ h => h)⟩

set_option maxRecDepth 100000 in
set_option maxHeartbeats 4000000 in
theorem put_at (w : World) (f : Fr) (vb : Value) (hs : Src w vb f.B) (hr : rightN f = true) :
    Calls Try.prog 30 #[frAgg f vb] w fun e w' => ∃ g, e = .returned (.slice (some ⟨g, 0, none⟩) 64 64) ∧ Blk w' g (BV (putN f)) 5 ∧ w.heap.size ≤ g ∧ Kept (fun _ => False) w w' := by
  obtain ⟨r1, r2, r3, r4, r5, r6, r7, r8⟩ := (rightN_iff f).1 hr
  obtain ⟨i59, hi59, hz59, hs59, hb59⟩ := info_parts Try.info66
  have Hi := hide hi59
  have Hz := hide hz59
  obtain ⟨A1, hA1⟩ : ∃ A, A = [] ++ numB (46878 : Int).toNat 2 := ⟨_, rfl⟩
  obtain ⟨A2, hA2⟩ : ∃ A, A = A1 ++ numB f.lsn.toNat 8 := ⟨_, rfl⟩
  obtain ⟨A3, hA3⟩ : ∃ A, A = A2 ++ numB f.ep.toNat 4 := ⟨_, rfl⟩
  obtain ⟨A4, hA4⟩ : ∃ A, A = A3 ++ numB f.ix.toNat 2 := ⟨_, rfl⟩
  obtain ⟨A5, hA5⟩ : ∃ A, A = A4 ++ numB f.ct.toNat 2 := ⟨_, rfl⟩
  have l1 : A1.length = 2 := by rw [hA1]; simp [numB_length]
  have l2 : A2.length = 10 := by rw [hA2]; simp [numB_length, l1]
  have l3 : A3.length = 14 := by rw [hA3]; simp [numB_length, l2]
  have l4 : A4.length = 16 := by rw [hA4]; simp [numB_length, l3]
  have l5 : A5.length = 18 := by rw [hA5]; simp [numB_length, l4]
  have hh : A5 ++ textB f.B = headN f := by
    rw [hA5, hA4, hA3, hA2, hA1]
    simp [headN, show (46878 : Int).toNat = 46878 from rfl]
  have F1 := hide (fits_fr (n := 46878) (m := 2) (by decide) (by decide) (by decide) (by decide))
  have F2 := hide (fits_fr (n := f.lsn) (m := 8) (by decide) (by decide) r1 (by simp; omega))
  have F3 := hide (fits_fr (n := f.ep) (m := 4) (by decide) (by decide) r3 (by simp; omega))
  have F4 := hide (fits_fr (n := f.ix) (m := 2) (by decide) (by decide) r6 (by simp; omega))
  have F5 := hide (fits_fr (n := f.ct) (m := 2) (by decide) (by decide) (by omega) (by simp; omega))
  have H1 := hide hA1
  have H2 := hide hA2
  have H3 := hide hA3
  have H4 := hide hA4
  have H5 := hide hA5
  have L1 := hide l1
  have L2 := hide l2
  have L3 := hide l3
  have L4 := hide l4
  have L5 := hide l5
  have HH := hide hh
  have HR := hide hr
  have B2 := hide r2
  have B4 := hide r4
  have B5 := hide r5
  have B7 := hide r7
  have B8 := hide r8
  have HS := hide hs
  clear hi59 hz59 hs59 hb59 hA1 hA2 hA3 hA4 hA5 l1 l2 l3 l4 l5 hh hr r1 r2 r3 r4 r5 r6 r7 r8 hs
  unfold frAgg
  go_enter Try.func30, Try.ntmps30
  go_wp2_with (first
    | ((with_reducible refine aw_box (t := 51) (v := .agg #[.int .i64 f.lsn, .int .i64 f.ep, .int .i64 f.ix, .int .i64 f.ct, vb]) rfl ?_); intro w1 hb1 hk1 hz1)
    | (with_reducible refine aw_load (x := .tmp 1) (M := frV f vb) Try.agg51 rfl hb1 (by simp [Value.cells]) rfl ?_)
    | fail)
  have hR := right_at w1 f vb HS.out.slice
  rw [HR.out] at hR
  refine hR.mono ?_
  rintro e w2 ⟨rfl, hk2⟩
  have HB2 := hide (hk2.blk hb1 (fun h => h))
  have HS2 := hide ((HS.out.kept hk1).kept hk2)
  have HK2 := hide (hk1.trans hk2 (fun _ _ h => h))
  clear hR hb1 hk1 hz1 hk2
  obtain ⟨b1, hbe⟩ : ∃ b1, b1 = w.heap.size := ⟨_, rfl⟩
  rw [← hbe] at HB2 ⊢
  clear hbe
  go_wp2_with (first
    | ((with_reducible refine aw_alloc (t := 66) Hi.out Hz.out ?_); intro w3 hb3 hk3 hz3; have HP3 : Hid (Pn w2 w3 w2.heap.size []) := hide ⟨Nat.le_refl _, hk3, _, pen_new hb3, fun k h => by simp [Value.ownBlock] at h⟩; clear hz3 hb3 hk3)
    | fail)
  obtain ⟨p, hp⟩ : ∃ p, p = w2.heap.size := ⟨_, rfl⟩
  rw [← hp] at HP3 ⊢
  clear hp
  refine (number_fit w2 w3 p [] A1 HP3.out (by simp) 46878 2 (by decide) F1.out H1.out).mono ?_
  rintro e w4 ⟨rfl, hp4⟩
  have c0 : w4.cell? ⟨b1, 0, none⟩ = some (.int .i64 f.lsn) := (hp4.base.blk HB2.out (fun h => h)).cell 0
  have HP4 := hide hp4
  clear HP3 hp4
  go_wp2_with fail
  refine (number_fit w2 w4 p A1 A2 HP4.out (by rw [L1.out]; decide) f.lsn 8 (by have := B2.out; omega) F2.out H2.out).mono ?_
  rintro e w5 ⟨rfl, hp5⟩
  have c1 : w5.cell? ⟨b1, 1, none⟩ = some (.int .i64 f.ep) := (hp5.base.blk HB2.out (fun h => h)).cell 1
  have HP5 := hide hp5
  clear HP4 hp5 c0
  go_wp2_with fail
  refine (number_fit w2 w5 p A2 A3 HP5.out (by rw [L2.out]; decide) f.ep 4 (by have := B4.out; omega) F3.out H3.out).mono ?_
  rintro e w6 ⟨rfl, hp6⟩
  have c2 : w6.cell? ⟨b1, 2, none⟩ = some (.int .i64 f.ix) := (hp6.base.blk HB2.out (fun h => h)).cell 2
  have HP6 := hide hp6
  clear HP5 hp6 c1
  go_wp2_with fail
  refine (number_fit w2 w6 p A3 A4 HP6.out (by rw [L3.out]; decide) f.ix 2 (by have := B7.out; have := B8.out; omega) F4.out H4.out).mono ?_
  rintro e w7 ⟨rfl, hp7⟩
  have c3 : w7.cell? ⟨b1, 3, none⟩ = some (.int .i64 f.ct) := (hp7.base.blk HB2.out (fun h => h)).cell 3
  have HP7 := hide hp7
  clear HP6 hp7 c2
  go_wp2_with fail
  refine (number_fit w2 w7 p A4 A5 HP7.out (by rw [L4.out]; decide) f.ct 2 (by have := B8.out; omega) F5.out H5.out).mono ?_
  rintro e w8 ⟨rfl, hp8⟩
  have c4 : w8.cell? ⟨b1, 4, none⟩ = some vb := (hp8.base.blk HB2.out (fun h => h)).cell 4
  have HP8 := hide hp8
  clear HP7 hp8 c3
  go_wp2_with fail
  refine (text_pn w2 w8 p A5 HP8.out (by rw [L5.out]; decide) vb f.B HS2.out (by have := B5.out; omega)).mono ?_
  rintro e w9 ⟨rfl, hp9⟩
  rw [HH.out] at hp9
  have HP9 := hide hp9
  clear HP8 hp9 c4
  go_wp2_with fail
  obtain ⟨-, hkp, vp, hpen, -⟩ := HP9.out
  have HKp := hide hkp
  refine (padded_at w9 p vp (headN f) hpen (by rw [headN_length]; have := B5.out; omega) 64 (by decide)).mono ?_
  rintro e w10 ⟨v10, rfl, hs10, hk10⟩
  have HS10 := hide hs10
  have HK10 := hide ((HK2.out.trans HKp.out (fun _ _ h => h)).trans hk10 (fun _ _ h => h))
  clear hs10 hk10 hpen hkp HP9
  go_wp2_with fail
  refine (mark_at w10 v10 _ HS10.out (by rw [pad64_length f B5.out]; decide)).mono ?_
  rw [pad64_length f B5.out]
  rintro e w11 ⟨g, rfl, hb11, hg11, hk11⟩
  have Hb11 := hide hb11
  have Hg11 := hide hg11
  have Hk11 := hide hk11
  clear hb11 hg11 hk11
  go_wp2
  go_ret
  refine ⟨g, rfl, Hb11.out, ?_, HK10.out.trans Hk11.out (fun _ _ h => h)⟩
  have := HK10.out.size
  have := Hg11.out
  omega
end Go.Proofs.Ytapoagpkjngjpaa
