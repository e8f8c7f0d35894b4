/-
  Get, of package record.
-/
import Derived.Test.YtcdlgaknpmlfeaaRGetW
import Derived.Test.YtcdlgaknpmlfeaaRRightB
namespace Go.Proofs.Ytcdlgaknpmlfeaa
open Go.RowKit Go.Shelf
set_option linter.unusedSimpArgs false
set_option linter.unusedVariables false

theorem run_loadVar {P : Program} {t : TypeId} {n b : Nat} {L : List Value} {e : TypeId} {w : World} (ht : aggSize P t n) (hb : Blk w b L e) (hl : L.length = n) :
    (loadVar t ⟨b, 0, none⟩).run P w = .ok (.agg L.toArray) w := by
  have hc := run_loadCells_list (P := P) w ⟨b, 0, none⟩ L (fun j v hj => by rw [addr_add, hb.cell, Nat.zero_add]; exact hj)
  rw [hl] at hc
  simp [loadVar, run_isAgg ht, run_sizeOf ht, hc]
theorem results_cell2 {P : Program} {fn : Func} {t u : Tmp} {ty : TypeId} {n b : Nat} {L : List Value} {e : TypeId} {tmps : Array Value} {w : World} (h : fn.results = #[.cell t ty, .tmp u]) (ht : aggSize P ty n) (hx : tmps.getD t undef = .pointer (some ⟨b, 0, none⟩)) (hb : Blk w b L e) (hl : L.length = n) :
    (results fn tmps).run P w = .ok (.tuple #[.agg L.toArray, tmps.getD u undef]) w := by
  have hv := run_loadVar (P := P) ht hb hl
  simp only [Array.getD_eq_getD_getElem?] at hx
  simp [results, h, hx, hv, asAddr]
section
variable {ρ : Operand → Value} {w : World} {dst : Option Tmp} {ty : TypeId} {pos : String} {aft : Array Edge} {gd : Option (Nat × Bool)} {x y z u : Operand}
theorem r_build24_0 : (execOp ρ ⟨dst, .build 24 #[], ty, pos, aft, gd⟩).run Try.prog w = .ok (.value (.agg #[.int .i64 0, .int .i64 0, .int .i64 0, .slice none 0 0])) w := by
  have hr := run_build (P := Try.prog) w 24 #[] #[.int .i64 0, .int .i64 0, .int .i64 0, .slice none 0 0] (by rfl)
  simp [execOp, hr]
theorem r_build24_1 {k : Int} (hx : ρ x = .int .i64 k) : (execOp ρ ⟨dst, .build 24 #[(0, x)], ty, pos, aft, gd⟩).run Try.prog w = .ok (.value (.agg #[.int .i64 k, .int .i64 0, .int .i64 0, .slice none 0 0])) w := by
  have hr := run_build (P := Try.prog) w 24 #[(0, .int .i64 k)] #[.int .i64 k, .int .i64 0, .int .i64 0, .slice none 0 0] (by rfl)
  simp [execOp, hx, hr]
theorem r_build24_3 {a : Option Addr} {n c : Nat} (hx : ρ x = .slice a n c) : (execOp ρ ⟨dst, .build 24 #[(3, x)], ty, pos, aft, gd⟩).run Try.prog w = .ok (.value (.agg #[.int .i64 0, .int .i64 0, .int .i64 0, .slice a n c])) w := by
  have hr := run_build (P := Try.prog) w 24 #[(3, .slice a n c)] #[.int .i64 0, .int .i64 0, .int .i64 0, .slice a n c] (by rfl)
  simp [execOp, hx, hr]
theorem r_build24_4 {k t n : Int} {a : Option Addr} {m c : Nat} (hx : ρ x = .int .i64 k) (hy : ρ y = .int .i64 t) (hz : ρ z = .int .i64 n) (hu : ρ u = .slice a m c) : (execOp ρ ⟨dst, .build 24 #[(0, x), (1, y), (2, z), (3, u)], ty, pos, aft, gd⟩).run Try.prog w = .ok (.value (.agg #[.int .i64 k, .int .i64 t, .int .i64 n, .slice a m c])) w := by
  have hr := run_build (P := Try.prog) w 24 #[(0, .int .i64 k), (1, .int .i64 t), (2, .int .i64 n), (3, .slice a m c)] #[.int .i64 k, .int .i64 t, .int .i64 n, .slice a m c] (by rfl)
  simp [execOp, hx, hy, hz, hu, hr]
end
/-- What Get answers. -/
def GetIs (w' : World) (B : List Nat) (x : Rv) (ec : Int) : Prop := RcAt w' x ∧ ((getR B = some x.rc ∧ ec = 0) ∨ (getR B = none ∧ ec = 20 ∧ x.rc = ⟨0, 0, 0, []⟩))
def rv0 : Rv := ⟨0, 0, 0, ⟨none, 0, 0⟩, []⟩
theorem getIs_none (w : World) {B : List Nat} (h : getR B = none) : GetIs w B rv0 20 := ⟨WsAt.nil w, .inr ⟨h, rfl, rfl⟩⟩
/-- What was read so far tells of what the bytes are. -/
def GD (B : List Nat) (r : Rc) (S : List Nat) (E : Int) : Prop := (E ≠ 0 → getR B = none) ∧ (E = 0 → readR B = (r, S, 0))
theorem GD.err {B : List Nat} {r : Rc} {S : List Nat} {E : Int} (h : GD B r S E) (hE : E ≠ 0) : getR B = none := h.1 hE
theorem GD.left {B : List Nat} {r : Rc} {S : List Nat} (h : GD B r S 0) (hS : S.length ≠ 0) : getR B = none := by
  unfold getR
  rw [h.2 rfl, if_pos (.inr (.inl (by intro e; simp only at e; exact hS (by rw [e]; rfl))))]
theorem GD.wrong {B : List Nat} {r : Rc} {S : List Nat} (h : GD B r S 0) (hr : rightR r = false) : getR B = none := by
  unfold getR
  rw [h.2 rfl, if_pos (.inr (.inr hr))]
theorem GD.yes {B : List Nat} {r : Rc} {S : List Nat} (h : GD B r S 0) (hS : S.length = 0) (hr : rightR r = true) : getR B = some r := by
  obtain rfl : S = [] := List.eq_nil_of_length_eq_zero hS
  unfold getR
  rw [h.2 rfl, if_neg (by simp [hr])]
theorem getR_err {B : List Nat} (h : (readR B).2.2 ≠ 0) : getR B = none := by
  unfold getR
  rw [if_pos (.inl h)]

set_option maxRecDepth 100000 in
set_option maxHeartbeats 8000000 in
theorem get_at (w : World) (v : Value) (B : List Nat) (hs : Src w v B) (hl : B.length ≤ 70000000) :
    Calls Try.prog 12 #[v] w fun e w' => ∃ (x : Rv) (ec : Int), e = .returned (.tuple #[x.agg, .int .i64 ec]) ∧ GetIs w' B x ec ∧ Kept (fun _ => False) w w' := by
  obtain ⟨i4, hi4, hz4, hs4, hb4⟩ := info_parts Try.info24
  obtain ⟨i3, hi3, hz3, hs3, hb3⟩ := info_parts Try.info3
  obtain ⟨i2, hi2, hz2, hs2, hb2⟩ := info_parts Try.info22
  have Hi4 := hide hi4
  have Hz4 := hide hz4
  have Hi3 := hide hi3
  have Hs3 := hide hs3
  have Hi2 := hide hi2
  have Hs2 := hide hs2
  have HSRC := hide hs
  obtain ⟨q0, hq0⟩ : ∃ x, x = (scanNum B 0 1).1 := ⟨_, rfl⟩
  obtain ⟨S0, hS0⟩ : ∃ x, x = (scanNum B 0 1).2.1 := ⟨_, rfl⟩
  obtain ⟨E0, hE0⟩ : ∃ x, x = (scanNum B 0 1).2.2 := ⟨_, rfl⟩
  obtain ⟨q1, hq1⟩ : ∃ x, x = (scanNum S0 E0 4).1 := ⟨_, rfl⟩
  obtain ⟨S1, hS1⟩ : ∃ x, x = (scanNum S0 E0 4).2.1 := ⟨_, rfl⟩
  obtain ⟨E1, hE1⟩ : ∃ x, x = (scanNum S0 E0 4).2.2 := ⟨_, rfl⟩
  obtain ⟨q2, hq2⟩ : ∃ x, x = (scanNum S1 E1 8).1 := ⟨_, rfl⟩
  obtain ⟨S2, hS2⟩ : ∃ x, x = (scanNum S1 E1 8).2.1 := ⟨_, rfl⟩
  obtain ⟨E2, hE2⟩ : ∃ x, x = (scanNum S1 E1 8).2.2 := ⟨_, rfl⟩
  have hl0 : S0.length ≤ 70000000 := by rw [hS0]; have := scanNum_len B 0 1; omega
  have hl1 : S1.length ≤ 70000000 := by rw [hS1]; have := scanNum_len S0 E0 4; omega
  have hl2 : S2.length ≤ 70000000 := by rw [hS2]; have := scanNum_len S1 E1 8; omega
  have HC0 : Hid (∀ N U s, Sc N U s B 0 → Calls Try.prog 25 #[.pointer (some ⟨s, 0, none⟩), .int .i64 1] U fun e w' => e = .returned (.int .i64 q0) ∧ Sc N w' s S0 E0 ∧ Kept (fun k => k = s) U w') := hide (fun N U s hU => by rw [hq0, hS0, hE0]; exact snum_sc N U s B 0 hU (by omega) 1)
  have HC1 : Hid (∀ N U s, Sc N U s S0 E0 → Calls Try.prog 25 #[.pointer (some ⟨s, 0, none⟩), .int .i64 4] U fun e w' => e = .returned (.int .i64 q1) ∧ Sc N w' s S1 E1 ∧ Kept (fun k => k = s) U w') := hide (fun N U s hU => by rw [hq1, hS1, hE1]; exact snum_sc N U s S0 E0 hU (by omega) 4)
  have HC2 : Hid (∀ N U s, Sc N U s S1 E1 → Calls Try.prog 25 #[.pointer (some ⟨s, 0, none⟩), .int .i64 8] U fun e w' => e = .returned (.int .i64 q2) ∧ Sc N w' s S2 E2 ∧ Kept (fun k => k = s) U w') := hide (fun N U s hU => by rw [hq2, hS2, hE2]; exact snum_sc N U s S1 E1 hU (by omega) 8)
  have HD0 : Hid (q0 = 2 → GD B ⟨q0, 0, 0, []⟩ S0 E0) := hide (fun e => by
    have hr : readR B = (⟨q0, 0, 0, []⟩, S0, E0) := by unfold readR; rw [← hq0, if_pos e, hS0, hE0]
    exact ⟨fun h => getR_err (by rw [hr]; exact h), fun h => by rw [hr, h]⟩)
  have HD1 : Hid (q0 ≠ 2 → q0 ≠ 3 → GD B ⟨q0, q1, q2, []⟩ S2 E2) := hide (fun e e3 => by
    have hr : readR B = (⟨q0, q1, q2, []⟩, S2, E2) := by
      unfold readR
      rw [← hq0, if_neg e, ← hS0, ← hE0]
      simp only
      rw [← hS1, ← hE1, if_neg e3, ← hq1, ← hq2, hS2, hE2]
    exact ⟨fun h => getR_err (by rw [hr]; exact h), fun h => by rw [hr, h]⟩)
  have HD2 : Hid (∀ l S' E', q0 = 3 → GW S2 E2 l S' E' → GD B ⟨q0, q1, q2, l⟩ S' E') := hide (fun l S' E' e3 hg => by
    have hr : readR B = (⟨q0, q1, q2, (scanWs (scanNum S2 E2 2).1.toNat (scanNum S2 E2 2).2.1 (scanNum S2 E2 2).2.2).1⟩, (scanWs (scanNum S2 E2 2).1.toNat (scanNum S2 E2 2).2.1 (scanNum S2 E2 2).2.2).2) := by
      unfold readR
      rw [← hq0, if_neg (by omega), ← hS0, ← hE0]
      simp only
      rw [← hS1, ← hE1, if_pos e3, ← hq1, ← hq2, ← hS2, ← hE2]
    obtain ⟨g1, g2⟩ := hg
    exact ⟨fun h => getR_err (by rw [hr]; exact fun e => h (g1.2 e)), fun h => by rw [hr, g2 h]⟩)
  clear hs hq0 hS0 hE0 hq1 hS1 hE1 hq2 hS2 hE2 hi4 hz4 hs4 hb4 hi3 hz3 hs3 hb3 hi2 hz2 hs2 hb2
  go_enter Try.func12, Try.ntmps12
  go_wp2_with (first
    | ((with_reducible refine aw_alloc (t := 24) (dst := some 2) Hi4.out Hz4.out ?_); intro w1 hb1 hk1 hz1)
    | fail)
  refine (new_at w1 v B (HSRC.out.kept hk1) (by omega)).mono ?_
  rintro e w2 ⟨s, v', rfl, hsc, hk2, hsz⟩
  have HSc := hide (Sc.of hsc)
  obtain ⟨N, hN⟩ : ∃ N, N = w2.heap.size := ⟨_, rfl⟩
  rw [← hN] at HSc
  have hsN : s < N := HSc.out.1
  have hb2 := hk2.blk hb1 (fun h => h)
  have hws : w.heap.size < s := by omega
  have HK := hide (hk1.trans hk2 (fun _ _ h => h))
  have HB2 : Hid (Blk w2 w.heap.size [.int .i64 0, .int .i64 0, .int .i64 0, .slice none 0 0] 24) := hide hb2
  clear hsc hb1 hb2 hk1 hk2 hsz hz1 HSRC
  go_wp2_with fail
  refine (HC0.out N w2 s HSc.out).mono ?_
  rintro e w3 ⟨rfl, hsc3, hk3⟩
  have HB3 := hide (hk3.blk HB2.out (by omega))
  have HK3 : Hid (Kept (fun _ => False) w w3) := hide (HK.out.trans hk3 (fun k hk e => by omega))
  have HS3 := hide hsc3
  have hsz3 := hk3.size
  clear hsc3 hk3 HC0 HB2 HK HSc
  go_wp2_with (first
    | ((with_reducible refine wpList_run rfl (r_build24_1 (k := q0) rfl) ?_))
    | ((with_reducible refine aw_alloc (t := 24) (dst := some 5) Hi4.out Hz4.out ?_); intro w4 hb4 hk4 hz4)
    | (with_reducible refine stop_store 24 ?_))
  refine hide ?_
  try simp only [put_lit, put_none, List.set_cons_succ, List.set_cons_zero]
  refine aw_store (x := .tmp 5) (M := [.int .i64 q0, .int .i64 0, .int .i64 0, .slice none 0 0]) Try.agg24 rfl rfl rfl (by simp [Value.oneCell']) hb4 (by simp [Value.cells]) ?_
  intro w5 hb5 hk5 hz5
  rw [put_whole _ _ (by simp [Value.cells])] at hb5
  have HB5 := hide hb5
  have HBr := hide (hk5.blk (hk4.blk HB3.out (fun h => h)) (by omega))
  have HK5 : Hid (Kept (fun _ => False) w w5) := hide ((HK3.out.trans hk4 (fun _ _ h => h)).trans hk5 (fun k hk e => by omega))
  have HS5 := hide ((HS3.out.kept hk4 (fun _ _ h => h)).kept hk5 (fun k hk e => by omega))
  have c0 : w5.cell? ⟨w3.heap.size, 0, none⟩ = some (.int .i64 q0) := hb5.cell 0
  have hb5s : w3.heap.size ≠ s := by omega
  have hb5r : w3.heap.size ≠ w.heap.size := by omega
  have HN5 : Hid (N ≤ w3.heap.size) := hide (by omega)
  have hww3 : w.heap.size < w3.heap.size := by omega
  clear hz4 hz5 hk4 hk5 hb4 hb5 HB3 HS3 HK3
  try simp only [put_lit, put_none, List.set_cons_succ, List.set_cons_zero]
  by_cases h2 : q0 = 2
  · have HDa : Hid (GD B ⟨q0, 0, 0, ([] : List Wv).map Wv.wr⟩ S0 E0) := hide (HD0.out h2)
    clear HD0 HD1 HD2 HC1 HC2
    subst h2
    have HWn : Hid (WsAt w5 (.slice none 0 0) []) := hide (WsAt.nil _)
    go_wp2_with fail
    refine (err_sc N _ s S0 E0 HS5.out).mono ?_
    rintro e w8 ⟨rfl, rfl⟩
    by_cases hE : E0 = 0
    · have HD' := HDa.out
      rw [hE] at HD'
      have HDD := hide HD'
      clear HD'
      subst hE
      go_wp2_with fail
      refine (left_sc N _ s S0 0 HS5.out).mono ?_
      rintro e w8 ⟨rfl, rfl⟩
      by_cases hS : S0.length = 0
      · have hSi : ((S0.length : Nat) : Int) = 0 := by omega
        have HSL := hide hS
        clear hS
        have d0 : w5.cell? ⟨w3.heap.size, 0, none⟩ = some (.int .i64 2) := HB5.out.cell 0
        have d1 : w5.cell? ⟨w3.heap.size, 1, none⟩ = some (.int .i64 0) := HB5.out.cell 1
        have d2 : w5.cell? ⟨w3.heap.size, 2, none⟩ = some (.int .i64 0) := HB5.out.cell 2
        have d3 : w5.cell? ⟨w3.heap.size, 3, none⟩ = some (.slice none 0 0) := HB5.out.cell 3
        go_wp2_with fail
        obtain ⟨rb, hrb⟩ : ∃ rb, rightR ⟨2, 0, 0, ([]).map Wv.wr⟩ = rb := ⟨_, rfl⟩
        refine (rightP_at _ 2 0 0 ⟨none, 0, 0⟩ ([]) HWn.out rb hrb).mono ?_
        rintro e w9 ⟨rfl, hk9⟩
        have HRB := hide hrb
        have HBR9 := hide (hk9.blk HBr.out (fun h => h))
        have HB9 := hide (hk9.blk HB5.out (fun h => h))
        have HK9 : Hid (Kept (fun _ => False) w w9) := hide (HK5.out.trans hk9 (fun _ _ h => h))
        have HW9 := hide (HWn.out.kept hk9)
        clear hrb hk9 d0 d1 d2 d3
        cases rb with
        | true =>
          go_wp2_with (first
            | (with_reducible refine aw_load (x := .tmp 5) (M := [.int .i64 2, .int .i64 0, .int .i64 0, .slice none 0 0]) Try.agg24 rfl HB9.out (by simp) rfl ?_)
            | ((with_reducible refine aw_store (x := .tmp 2) (M := [.int .i64 2, .int .i64 0, .int .i64 0, .slice none 0 0]) Try.agg24 rfl rfl rfl (by simp [Value.oneCell']) HBR9.out (by simp) ?_); intro wz hbz hkz hzz; rw [put_whole _ _ (by simp)] at hbz)
            | fail)
          refine bodyPost_ret (results_cell2 (t := 2) (u := 3) (ty := 24) rfl Try.agg24 rfl hbz rfl) rfl ?_
          have hkF : Kept (fun _ => False) w wz := HK9.out.trans hkz (fun k hk e => by omega)
          refine ⟨⟨2, 0, 0, ⟨none, 0, 0⟩, []⟩, 0, rfl, ⟨?_, .inl ⟨HDD.out.yes HSL.out HRB.out, rfl⟩⟩, hkF⟩
          exact WsAt.nil _
        | false =>
          go_wp2_with (first
            | ((with_reducible refine wpList_run rfl r_build24_0 ?_))
            | ((with_reducible refine aw_store (x := .tmp 2) (M := [.int .i64 0, .int .i64 0, .int .i64 0, .slice none 0 0]) Try.agg24 rfl rfl rfl (by simp [Value.oneCell']) HBR9.out (by simp) ?_); intro wz hbz hkz hzz; rw [put_whole _ _ (by simp)] at hbz)
            | fail)
          refine bodyPost_ret (results_cell2 (t := 2) (u := 3) (ty := 24) rfl Try.agg24 rfl hbz rfl) rfl ?_
          exact ⟨rv0, 20, rfl, getIs_none _ (HDD.out.wrong HRB.out), HK9.out.trans hkz (fun k hk e => by omega)⟩
      · have hSi : ¬ ((S0.length : Nat) : Int) = 0 := by omega
        go_wp2_with (first
          | ((with_reducible refine wpList_run rfl r_build24_0 ?_))
          | ((with_reducible refine aw_store (x := .tmp 2) (M := [.int .i64 0, .int .i64 0, .int .i64 0, .slice none 0 0]) Try.agg24 rfl rfl rfl (by simp [Value.oneCell']) HBr.out (by simp) ?_); intro wz hbz hkz hzz; rw [put_whole _ _ (by simp)] at hbz)
          | fail)
        refine bodyPost_ret (results_cell2 (t := 2) (u := 3) (ty := 24) rfl Try.agg24 rfl hbz rfl) rfl ?_
        exact ⟨rv0, 20, rfl, getIs_none _ (HDD.out.left hS), HK5.out.trans hkz (fun k hk e => by omega)⟩
    · have hEi : ¬ (E0 : Int) = 0 := hE
      go_wp2_with (first
        | ((with_reducible refine wpList_run rfl r_build24_0 ?_))
        | ((with_reducible refine aw_store (x := .tmp 2) (M := [.int .i64 0, .int .i64 0, .int .i64 0, .slice none 0 0]) Try.agg24 rfl rfl rfl (by simp [Value.oneCell']) HBr.out (by simp) ?_); intro wz hbz hkz hzz; rw [put_whole _ _ (by simp)] at hbz)
        | fail)
      refine bodyPost_ret (results_cell2 (t := 2) (u := 3) (ty := 24) rfl Try.agg24 rfl hbz rfl) rfl ?_
      exact ⟨rv0, 20, rfl, getIs_none _ (HDa.out.err hE), HK5.out.trans hkz (fun k hk e => by omega)⟩
  · go_wp2_with fail
    refine (HC1.out N _ s HS5.out).mono ?_
    rintro e w6 ⟨rfl, hsc6, hk6⟩
    have HB6 := hide (hk6.blk HB5.out hb5s)
    have HBr6 := hide (hk6.blk HBr.out (by omega))
    have HK6 : Hid (Kept (fun _ => False) w w6) := hide (HK5.out.trans hk6 (fun k hk e => by omega))
    have HS6 := hide hsc6
    clear hsc6 hk6 HC1 HB5 HBr HK5 HS5 c0
    go_wp2_with (first
      | ((with_reducible refine aw_store1 (t := 3) (v := .int .i64 q1) Hi3.out Hs3.out rfl rfl rfl rfl HB6.out (by simp) ?_); intro wa hba hka hza; have HBa := hide hba; have HBra := hide (hka.blk HBr6.out (by omega)); have HKa : Hid (Kept (fun _ => False) w wa) := hide (HK6.out.trans hka (fun k hk e => by omega)); have HSa := hide (HS6.out.kept hka (fun k hk e => by have := HN5.out; omega)); clear hba hka hza HB6 HBr6 HK6 HS6)
      | fail)
    refine (HC2.out N _ s HSa.out).mono ?_
    rintro e w6 ⟨rfl, hsc6, hk6⟩
    have HB6 := hide (hk6.blk HBa.out hb5s)
    have HBr6 := hide (hk6.blk HBra.out (by omega))
    have HK6 : Hid (Kept (fun _ => False) w w6) := hide (HKa.out.trans hk6 (fun k hk e => by omega))
    have HS6 := hide hsc6
    clear hsc6 hk6 HC2 HBa HBra HKa HSa
    by_cases h3 : q0 = 3
    · have HDc := hide (fun l S' E' => HD2.out l S' E' h3)
      clear HD0 HD1 HD2
      subst h3
      go_wp2_with (first
        | ((with_reducible refine aw_store1 (t := 3) (v := .int .i64 q2) Hi3.out Hs3.out rfl rfl rfl rfl HB6.out (by simp) ?_); intro wb hbb hkb hzb; have HBb := hide hbb; have HBrb := hide (hkb.blk HBr6.out (by omega)); have HKb : Hid (Kept (fun _ => False) w wb) := hide (HK6.out.trans hkb (fun k hk e => by omega)); have HSb := hide (HS6.out.kept hkb (fun k hk e => by have := HN5.out; omega)); have c0 : wb.cell? ⟨w3.heap.size, 0, none⟩ = some (.int .i64 3) := hbb.cell 0; clear hbb hkb hzb HB6 HBr6 HK6 HS6)
        | fail)
      refine (getWrites_at N _ s S2 E2 HSb.out (by omega)).mono ?_
      rintro e wc ⟨⟨ta, tn, tc⟩, ws, S3, E3, rfl, hscc, hOc, hwl, hkc, hgw⟩
      have HBc := hide (hkc.blk HBb.out hb5s)
      have HBrc := hide (hkc.blk HBrb.out (by omega))
      have HKc : Hid (Kept (fun _ => False) w wc) := hide (HKb.out.trans hkc (fun k hk e => by omega))
      have HSc := hide hscc
      have HOc := hide hOc
      have HDe := hide (HDc.out _ _ _ hgw)
      clear hscc hOc hkc hgw HBb HBrb HKb HSb c0 HDc
      go_wp2_with (first
        | ((with_reducible refine aw_store1 (t := 22) (v := .slice ta tn tc) Hi2.out Hs2.out rfl rfl rfl rfl HBc.out (by simp) ?_); intro wd hbd hkd hzd; have HBd := hide hbd; have HBrd := hide (hkd.blk HBrc.out (by omega)); have HKd : Hid (Kept (fun _ => False) w wd) := hide (HKc.out.trans hkd (fun k hk e => by omega)); have HSd := hide (HSc.out.kept hkd (fun k hk e => by have := HN5.out; omega)); have HWd := hide ((HOc.out.keptB HBc.out (by decide) (by decide) hkd).at (by omega)); have HOd := hide (HOc.out.keptB HBc.out (by decide) (by decide) hkd); clear hbd hkd hzd HBc HBrc HKc HSc HOc)
        | fail)
      refine (err_sc N _ s S3 E3 HSd.out).mono ?_
      rintro e w8 ⟨rfl, rfl⟩
      by_cases hE : E3 = 0
      · have HD' := HDe.out
        rw [hE] at HD'
        have HDD := hide HD'
        clear HD'
        subst hE
        go_wp2_with fail
        refine (left_sc N _ s S3 0 HSd.out).mono ?_
        rintro e w8 ⟨rfl, rfl⟩
        by_cases hS : S3.length = 0
        · have hSi : ((S3.length : Nat) : Int) = 0 := by omega
          have HSL := hide hS
          clear hS
          have d0 : wd.cell? ⟨w3.heap.size, 0, none⟩ = some (.int .i64 3) := HBd.out.cell 0
          have d1 : wd.cell? ⟨w3.heap.size, 1, none⟩ = some (.int .i64 q1) := HBd.out.cell 1
          have d2 : wd.cell? ⟨w3.heap.size, 2, none⟩ = some (.int .i64 q2) := HBd.out.cell 2
          have d3 : wd.cell? ⟨w3.heap.size, 3, none⟩ = some (.slice ta tn tc) := HBd.out.cell 3
          go_wp2_with fail
          obtain ⟨rb, hrb⟩ : ∃ rb, rightR ⟨3, q1, q2, (ws).map Wv.wr⟩ = rb := ⟨_, rfl⟩
          refine (rightP_at _ 3 q1 q2 ⟨ta, tn, tc⟩ (ws) HWd.out rb hrb).mono ?_
          rintro e w9 ⟨rfl, hk9⟩
          have HRB := hide hrb
          have HBR9 := hide (hk9.blk HBrd.out (fun h => h))
          have HB9 := hide (hk9.blk HBd.out (fun h => h))
          have HK9 : Hid (Kept (fun _ => False) w w9) := hide (HKd.out.trans hk9 (fun _ _ h => h))
          have HW9 := hide (HWd.out.kept hk9)
          have HK9w := hide hk9
          clear hrb hk9 d0 d1 d2 d3
          cases rb with
          | true =>
            go_wp2_with (first
              | (with_reducible refine aw_load (x := .tmp 5) (M := [.int .i64 3, .int .i64 q1, .int .i64 q2, .slice ta tn tc]) Try.agg24 rfl HB9.out (by simp) rfl ?_)
              | ((with_reducible refine aw_store (x := .tmp 2) (M := [.int .i64 3, .int .i64 q1, .int .i64 q2, .slice ta tn tc]) Try.agg24 rfl rfl rfl (by simp [Value.oneCell']) HBR9.out (by simp) ?_); intro wz hbz hkz hzz; rw [put_whole _ _ (by simp)] at hbz)
              | fail)
            refine bodyPost_ret (results_cell2 (t := 2) (u := 3) (ty := 24) rfl Try.agg24 rfl hbz rfl) rfl ?_
            have hkF : Kept (fun _ => False) w wz := HK9.out.trans hkz (fun k hk e => by omega)
            refine ⟨⟨3, q1, q2, ⟨ta, tn, tc⟩, ws⟩, 0, rfl, ⟨?_, .inl ⟨HDD.out.yes HSL.out HRB.out, rfl⟩⟩, hkF⟩
            exact ((((HOd.out.keptF HK9w.out).keptB HBR9.out (by decide) (by decide) hkz)).at (by omega))
          | false =>
            go_wp2_with (first
              | ((with_reducible refine wpList_run rfl r_build24_0 ?_))
              | ((with_reducible refine aw_store (x := .tmp 2) (M := [.int .i64 0, .int .i64 0, .int .i64 0, .slice none 0 0]) Try.agg24 rfl rfl rfl (by simp [Value.oneCell']) HBR9.out (by simp) ?_); intro wz hbz hkz hzz; rw [put_whole _ _ (by simp)] at hbz)
              | fail)
            refine bodyPost_ret (results_cell2 (t := 2) (u := 3) (ty := 24) rfl Try.agg24 rfl hbz rfl) rfl ?_
            exact ⟨rv0, 20, rfl, getIs_none _ (HDD.out.wrong HRB.out), HK9.out.trans hkz (fun k hk e => by omega)⟩
        · have hSi : ¬ ((S3.length : Nat) : Int) = 0 := by omega
          go_wp2_with (first
            | ((with_reducible refine wpList_run rfl r_build24_0 ?_))
            | ((with_reducible refine aw_store (x := .tmp 2) (M := [.int .i64 0, .int .i64 0, .int .i64 0, .slice none 0 0]) Try.agg24 rfl rfl rfl (by simp [Value.oneCell']) HBrd.out (by simp) ?_); intro wz hbz hkz hzz; rw [put_whole _ _ (by simp)] at hbz)
            | fail)
          refine bodyPost_ret (results_cell2 (t := 2) (u := 3) (ty := 24) rfl Try.agg24 rfl hbz rfl) rfl ?_
          exact ⟨rv0, 20, rfl, getIs_none _ (HDD.out.left hS), HKd.out.trans hkz (fun k hk e => by omega)⟩
      · have hEi : ¬ (E3 : Int) = 0 := hE
        go_wp2_with (first
          | ((with_reducible refine wpList_run rfl r_build24_0 ?_))
          | ((with_reducible refine aw_store (x := .tmp 2) (M := [.int .i64 0, .int .i64 0, .int .i64 0, .slice none 0 0]) Try.agg24 rfl rfl rfl (by simp [Value.oneCell']) HBrd.out (by simp) ?_); intro wz hbz hkz hzz; rw [put_whole _ _ (by simp)] at hbz)
          | fail)
        refine bodyPost_ret (results_cell2 (t := 2) (u := 3) (ty := 24) rfl Try.agg24 rfl hbz rfl) rfl ?_
        exact ⟨rv0, 20, rfl, getIs_none _ (HDe.out.err hE), HKd.out.trans hkz (fun k hk e => by omega)⟩
    · have HDf : Hid (GD B ⟨q0, q1, q2, ([] : List Wv).map Wv.wr⟩ S2 E2) := hide (HD1.out h2 h3)
      clear HD0 HD1 HD2
      go_wp2_with (first
        | ((with_reducible refine aw_store1 (t := 3) (v := .int .i64 q2) Hi3.out Hs3.out rfl rfl rfl rfl HB6.out (by simp) ?_); intro wb hbb hkb hzb; have HBb := hide hbb; have HBrb := hide (hkb.blk HBr6.out (by omega)); have HKb : Hid (Kept (fun _ => False) w wb) := hide (HK6.out.trans hkb (fun k hk e => by omega)); have HSb := hide (HS6.out.kept hkb (fun k hk e => by have := HN5.out; omega)); have c0 : wb.cell? ⟨w3.heap.size, 0, none⟩ = some (.int .i64 q0) := hbb.cell 0; clear hbb hkb hzb HB6 HBr6 HK6 HS6)
        | fail)
      have HWn : Hid (WsAt wb (.slice none 0 0) []) := hide (WsAt.nil _)
      refine (err_sc N _ s S2 E2 HSb.out).mono ?_
      rintro e w8 ⟨rfl, rfl⟩
      by_cases hE : E2 = 0
      · have HD' := HDf.out
        rw [hE] at HD'
        have HDD := hide HD'
        clear HD'
        subst hE
        go_wp2_with fail
        refine (left_sc N _ s S2 0 HSb.out).mono ?_
        rintro e w8 ⟨rfl, rfl⟩
        by_cases hS : S2.length = 0
        · have hSi : ((S2.length : Nat) : Int) = 0 := by omega
          have HSL := hide hS
          clear hS
          have d0 : wb.cell? ⟨w3.heap.size, 0, none⟩ = some (.int .i64 q0) := HBb.out.cell 0
          have d1 : wb.cell? ⟨w3.heap.size, 1, none⟩ = some (.int .i64 q1) := HBb.out.cell 1
          have d2 : wb.cell? ⟨w3.heap.size, 2, none⟩ = some (.int .i64 q2) := HBb.out.cell 2
          have d3 : wb.cell? ⟨w3.heap.size, 3, none⟩ = some (.slice none 0 0) := HBb.out.cell 3
          go_wp2_with fail
          obtain ⟨rb, hrb⟩ : ∃ rb, rightR ⟨q0, q1, q2, ([]).map Wv.wr⟩ = rb := ⟨_, rfl⟩
          refine (rightP_at _ q0 q1 q2 ⟨none, 0, 0⟩ ([]) HWn.out rb hrb).mono ?_
          rintro e w9 ⟨rfl, hk9⟩
          have HRB := hide hrb
          have HBR9 := hide (hk9.blk HBrb.out (fun h => h))
          have HB9 := hide (hk9.blk HBb.out (fun h => h))
          have HK9 : Hid (Kept (fun _ => False) w w9) := hide (HKb.out.trans hk9 (fun _ _ h => h))
          have HW9 := hide (HWn.out.kept hk9)
          clear hrb hk9 d0 d1 d2 d3
          cases rb with
          | true =>
            go_wp2_with (first
              | (with_reducible refine aw_load (x := .tmp 5) (M := [.int .i64 q0, .int .i64 q1, .int .i64 q2, .slice none 0 0]) Try.agg24 rfl HB9.out (by simp) rfl ?_)
              | ((with_reducible refine aw_store (x := .tmp 2) (M := [.int .i64 q0, .int .i64 q1, .int .i64 q2, .slice none 0 0]) Try.agg24 rfl rfl rfl (by simp [Value.oneCell']) HBR9.out (by simp) ?_); intro wz hbz hkz hzz; rw [put_whole _ _ (by simp)] at hbz)
              | fail)
            refine bodyPost_ret (results_cell2 (t := 2) (u := 3) (ty := 24) rfl Try.agg24 rfl hbz rfl) rfl ?_
            have hkF : Kept (fun _ => False) w wz := HK9.out.trans hkz (fun k hk e => by omega)
            refine ⟨⟨q0, q1, q2, ⟨none, 0, 0⟩, []⟩, 0, rfl, ⟨?_, .inl ⟨HDD.out.yes HSL.out HRB.out, rfl⟩⟩, hkF⟩
            exact WsAt.nil _
          | false =>
            go_wp2_with (first
              | ((with_reducible refine wpList_run rfl r_build24_0 ?_))
              | ((with_reducible refine aw_store (x := .tmp 2) (M := [.int .i64 0, .int .i64 0, .int .i64 0, .slice none 0 0]) Try.agg24 rfl rfl rfl (by simp [Value.oneCell']) HBR9.out (by simp) ?_); intro wz hbz hkz hzz; rw [put_whole _ _ (by simp)] at hbz)
              | fail)
            refine bodyPost_ret (results_cell2 (t := 2) (u := 3) (ty := 24) rfl Try.agg24 rfl hbz rfl) rfl ?_
            exact ⟨rv0, 20, rfl, getIs_none _ (HDD.out.wrong HRB.out), HK9.out.trans hkz (fun k hk e => by omega)⟩
        · have hSi : ¬ ((S2.length : Nat) : Int) = 0 := by omega
          go_wp2_with (first
            | ((with_reducible refine wpList_run rfl r_build24_0 ?_))
            | ((with_reducible refine aw_store (x := .tmp 2) (M := [.int .i64 0, .int .i64 0, .int .i64 0, .slice none 0 0]) Try.agg24 rfl rfl rfl (by simp [Value.oneCell']) HBrb.out (by simp) ?_); intro wz hbz hkz hzz; rw [put_whole _ _ (by simp)] at hbz)
            | fail)
          refine bodyPost_ret (results_cell2 (t := 2) (u := 3) (ty := 24) rfl Try.agg24 rfl hbz rfl) rfl ?_
          exact ⟨rv0, 20, rfl, getIs_none _ (HDD.out.left hS), HKb.out.trans hkz (fun k hk e => by omega)⟩
      · have hEi : ¬ (E2 : Int) = 0 := hE
        go_wp2_with (first
          | ((with_reducible refine wpList_run rfl r_build24_0 ?_))
          | ((with_reducible refine aw_store (x := .tmp 2) (M := [.int .i64 0, .int .i64 0, .int .i64 0, .slice none 0 0]) Try.agg24 rfl rfl rfl (by simp [Value.oneCell']) HBrb.out (by simp) ?_); intro wz hbz hkz hzz; rw [put_whole _ _ (by simp)] at hbz)
          | fail)
        refine bodyPost_ret (results_cell2 (t := 2) (u := 3) (ty := 24) rfl Try.agg24 rfl hbz rfl) rfl ?_
        exact ⟨rv0, 20, rfl, getIs_none _ (HDf.out.err hE), HKb.out.trans hkz (fun k hk e => by omega)⟩
end Go.Proofs.Ytcdlgaknpmlfeaa
