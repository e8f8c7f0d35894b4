/-
  Get, of package record.
-/
import Derived.Test.YtbbhchmdggfncaaJ13
namespace Go.Proofs.Ytbbhchmdggfncaa
open Go.RowKit Go.Shelf
set_option linter.unusedSimpArgs false
set_option linter.unusedVariables false
set_option maxRecDepth 100000

section
variable {ρ : Operand → Value} {w : World} {dst : Option Tmp} {ty : TypeId} {pos : String} {aft : Array Edge} {gd : Option (Nat × Bool)} {x y z u : Operand}
end
/-- A record of one's own, all of whose blocks are at N's end or beyond. -/
def RcOwn (N : Nat) (w : World) (x : Rv) : Prop := WsOwn w x.s.v x.ws ∧ NewOf N x.s.v x.ws ∧ x.ws.length ≤ 65535
theorem RcOwn.at {N : Nat} {w : World} {x : Rv} (h : RcOwn N w x) : RcAt w x := h.1.at (by have := h.2.2; omega)
theorem RcOwn.kept {N : Nat} {w w' : World} {x : Rv} (h : RcOwn N w x) (hk : Kept (fun _ => False) w w') : RcOwn N w' x := ⟨h.1.keptF hk, h.2⟩
theorem RcOwn.keptB {N : Nat} {w w' : World} {x : Rv} {b : Nat} {L : List Value} {t : TypeId} (h : RcOwn N w x) (hb : Blk w b L t) (h39 : t ≠ 39) (h5 : t ≠ 5) (hk : Kept (fun k => k = b) w w') : RcOwn N w' x := ⟨h.1.keptB hb h39 h5 hk, h.2⟩
theorem RcOwn.le {N M : Nat} {w : World} {x : Rv} (h : RcOwn N w x) (hM : M ≤ N) : RcOwn M w x := ⟨h.1, h.2.1.le hM, h.2.2⟩
/-- What Get answers. -/
def GetIs (N : Nat) (w' : World) (B : List Nat) (x : Rv) (ec : Int) : Prop := RcOwn N w' x ∧ ((getR B = some x.rc ∧ ec = 0) ∨ (getR B = none ∧ ec = 20 ∧ x.rc = ⟨0, 0, 0, []⟩))
def rv0 : Rv := ⟨0, 0, 0, ⟨none, 0, 0⟩, []⟩
theorem getIs_none {N : Nat} (w : World) {B : List Nat} (h : getR B = none) : GetIs N w B rv0 20 := ⟨⟨WsOwn.nil w, NewOf.nil _, by decide⟩, .inr ⟨h, rfl, rfl⟩⟩
/-- What was read so far tells of what the bytes are. -/
def GD (B : List Nat) (r : Rc) (S : List Nat) (E : Int) : Prop := (E ≠ 0 → getR B = none) ∧ (E = 0 → readR B = (r, S, 0))
theorem GD.err {B : List Nat} {r : Rc} {S : List Nat} {E : Int} (h : GD B r S E) (hE : E ≠ 0) : getR B = none := h.1 hE
theorem GD.left {B : List Nat} {r : Rc} {S : List Nat} (h : GD B r S 0) (hS : S.length ≠ 0) : getR B = none := by
  unfold getR
  rw [h.2 rfl, if_pos (.inr (.inl (by intro e; simp only at e; exact hS (by rw [e]; rfl))))]
theorem GD.wrong {B : List Nat} {r : Rc} {S : List Nat} (h : GD B r S 0) (hr : rightR r = false) : getR B = none := by
  unfold getR
  rw [h.2 rfl, if_pos (.inr (.inr hr))]
theorem GD.yes {B : List Nat} {r : Rc} {S : List Nat} (h : GD B r S 0) (hS : S.length = 0) (hr : rightR r = true) : getR B = some r := by
  obtain rfl : S = [] := List.eq_nil_of_length_eq_zero hS
  unfold getR
  rw [h.2 rfl, if_neg (by simp [hr])]
theorem getR_err {B : List Nat} (h : (readR B).2.2 ≠ 0) : getR B = none := by
  unfold getR
  rw [if_pos (.inl h)]

set_option maxRecDepth 100000 in
set_option maxHeartbeats 8000000 in
theorem rcget_at (w : World) (v : Value) (B : List Nat) (hs : Src w v B) (hl : B.length ≤ 70000000) :
    Calls Try.prog 62 #[v] w fun e w' => ∃ (x : Rv) (ec : Int), e = .returned (.tuple #[x.agg, .int .i64 ec]) ∧ GetIs w.heap.size w' B x ec ∧ Kept (fun _ => False) w w' := by
  obtain ⟨i4, hi4, hz4, hs4, hb4⟩ := info_parts Try.info37
  obtain ⟨i3, hi3, hz3, hs3, hb3⟩ := info_parts Try.info3
  obtain ⟨i2, hi2, hz2, hs2, hb2⟩ := info_parts Try.info35
  have Hi4 := hide hi4
  have Hz4 := hide hz4
  have Hi3 := hide hi3
  have Hs3 := hide hs3
  have Hi2 := hide hi2
  have Hs2 := hide hs2
  have HSRC := hide hs
  obtain ⟨q0, hq0⟩ : ∃ x, x = (scanNum B 0 1).1 := ⟨_, rfl⟩
  obtain ⟨S0, hS0⟩ : ∃ x, x = (scanNum B 0 1).2.1 := ⟨_, rfl⟩
  obtain ⟨E0, hE0⟩ : ∃ x, x = (scanNum B 0 1).2.2 := ⟨_, rfl⟩
  obtain ⟨q1, hq1⟩ : ∃ x, x = (scanNum S0 E0 4).1 := ⟨_, rfl⟩
  obtain ⟨S1, hS1⟩ : ∃ x, x = (scanNum S0 E0 4).2.1 := ⟨_, rfl⟩
  obtain ⟨E1, hE1⟩ : ∃ x, x = (scanNum S0 E0 4).2.2 := ⟨_, rfl⟩
  obtain ⟨q2, hq2⟩ : ∃ x, x = (scanNum S1 E1 8).1 := ⟨_, rfl⟩
  obtain ⟨S2, hS2⟩ : ∃ x, x = (scanNum S1 E1 8).2.1 := ⟨_, rfl⟩
  obtain ⟨E2, hE2⟩ : ∃ x, x = (scanNum S1 E1 8).2.2 := ⟨_, rfl⟩
  have hl0 : S0.length ≤ 70000000 := by rw [hS0]; have := scanNum_len B 0 1; omega
  have hl1 : S1.length ≤ 70000000 := by rw [hS1]; have := scanNum_len S0 E0 4; omega
  have hl2 : S2.length ≤ 70000000 := by rw [hS2]; have := scanNum_len S1 E1 8; omega
  have HC0 : Hid (∀ N U s, Sc N U s B 0 → Calls Try.prog 76 #[.pointer (some ⟨s, 0, none⟩), .int .i64 1] U fun e w' => e = .returned (.int .i64 q0) ∧ Sc N w' s S0 E0 ∧ Kept (fun k => k = s) U w') := hide (fun N U s hU => by rw [hq0, hS0, hE0]; exact snum_sc N U s B 0 hU (by omega) 1)
  have HC1 : Hid (∀ N U s, Sc N U s S0 E0 → Calls Try.prog 76 #[.pointer (some ⟨s, 0, none⟩), .int .i64 4] U fun e w' => e = .returned (.int .i64 q1) ∧ Sc N w' s S1 E1 ∧ Kept (fun k => k = s) U w') := hide (fun N U s hU => by rw [hq1, hS1, hE1]; exact snum_sc N U s S0 E0 hU (by omega) 4)
  have HC2 : Hid (∀ N U s, Sc N U s S1 E1 → Calls Try.prog 76 #[.pointer (some ⟨s, 0, none⟩), .int .i64 8] U fun e w' => e = .returned (.int .i64 q2) ∧ Sc N w' s S2 E2 ∧ Kept (fun k => k = s) U w') := hide (fun N U s hU => by rw [hq2, hS2, hE2]; exact snum_sc N U s S1 E1 hU (by omega) 8)
  have HD0 : Hid (q0 = 2 → GD B ⟨q0, 0, 0, []⟩ S0 E0) := hide (fun e => by
    have hr : readR B = (⟨q0, 0, 0, []⟩, S0, E0) := by unfold readR; rw [← hq0, if_pos e, hS0, hE0]
    exact ⟨fun h => getR_err (by rw [hr]; exact h), fun h => by rw [hr, h]⟩)
  have HD1 : Hid (q0 ≠ 2 → q0 ≠ 3 → GD B ⟨q0, q1, q2, []⟩ S2 E2) := hide (fun e e3 => by
    have hr : readR B = (⟨q0, q1, q2, []⟩, S2, E2) := by
      unfold readR
      rw [← hq0, if_neg e, ← hS0, ← hE0]
      simp only
      rw [← hS1, ← hE1, if_neg e3, ← hq1, ← hq2, hS2, hE2]
    exact ⟨fun h => getR_err (by rw [hr]; exact h), fun h => by rw [hr, h]⟩)
  have HD2 : Hid (∀ l S' E', q0 = 3 → GW S2 E2 l S' E' → GD B ⟨q0, q1, q2, l⟩ S' E') := hide (fun l S' E' e3 hg => by
    have hr : readR B = (⟨q0, q1, q2, (scanWs (scanNum S2 E2 2).1.toNat (scanNum S2 E2 2).2.1 (scanNum S2 E2 2).2.2).1⟩, (scanWs (scanNum S2 E2 2).1.toNat (scanNum S2 E2 2).2.1 (scanNum S2 E2 2).2.2).2) := by
      unfold readR
      rw [← hq0, if_neg (by omega), ← hS0, ← hE0]
      simp only
      rw [← hS1, ← hE1, if_pos e3, ← hq1, ← hq2, ← hS2, ← hE2]
    obtain ⟨g1, g2⟩ := hg
    exact ⟨fun h => getR_err (by rw [hr]; exact fun e => h (g1.2 e)), fun h => by rw [hr, g2 h]⟩)
  clear hs hq0 hS0 hE0 hq1 hS1 hE1 hq2 hS2 hE2 hi4 hz4 hs4 hb4 hi3 hz3 hs3 hb3 hi2 hz2 hs2 hb2
  go_enter Try.func62, Try.ntmps62
  go_wp2_with (first
    | ((with_reducible refine aw_alloc (t := 37) (dst := some 2) Hi4.out Hz4.out ?_); intro w1 hb1 hk1 hz1)
    | fail)
  refine (new_at w1 v B (HSRC.out.kept hk1) (by omega)).mono ?_
  rintro e w2 ⟨s, v', rfl, hsc, hk2, hsz⟩
  have HSc := hide (Sc.of hsc)
  obtain ⟨N, hN⟩ : ∃ N, N = w2.heap.size := ⟨_, rfl⟩
  rw [← hN] at HSc
  have hsN : s < N := HSc.out.1
  have hb2 := hk2.blk hb1 (fun h => h)
  have hws : w.heap.size < s := by omega
  have HK := hide (hk1.trans hk2 (fun _ _ h => h))
  have HB2 : Hid (Blk w2 w.heap.size [.int .i64 0, .int .i64 0, .int .i64 0, .slice none 0 0] 37) := hide hb2
  clear hsc hb1 hb2 hk1 hk2 hsz hz1 HSRC
  go_wp2_with fail
  refine (HC0.out N w2 s HSc.out).mono ?_
  rintro e w3 ⟨rfl, hsc3, hk3⟩
  have HB3 := hide (hk3.blk HB2.out (by omega))
  have HK3 : Hid (Kept (fun _ => False) w w3) := hide (HK.out.trans hk3 (fun k hk e => by omega))
  have HS3 := hide hsc3
  have hsz3 := hk3.size
  clear hsc3 hk3 HC0 HB2 HK HSc
  go_wp2_with (first
    | ((with_reducible refine wpList_run rfl (r_build24_1 (k := q0) rfl) ?_))
    | ((with_reducible refine aw_alloc (t := 37) (dst := some 5) Hi4.out Hz4.out ?_); intro w4 hb4 hk4 hz4)
    | (with_reducible refine stop_store 37 ?_))
  refine hide ?_
  try simp only [put_lit, put_none, List.set_cons_succ, List.set_cons_zero]
  refine aw_store (x := .tmp 5) (M := [.int .i64 q0, .int .i64 0, .int .i64 0, .slice none 0 0]) Try.agg37 rfl rfl rfl (by simp [Value.oneCell']) hb4 (by simp [Value.cells]) ?_
  intro w5 hb5 hk5 hz5
  rw [put_whole _ _ (by simp [Value.cells])] at hb5
  have HB5 := hide hb5
  have HBr := hide (hk5.blk (hk4.blk HB3.out (fun h => h)) (by omega))
  have HK5 : Hid (Kept (fun _ => False) w w5) := hide ((HK3.out.trans hk4 (fun _ _ h => h)).trans hk5 (fun k hk e => by omega))
  have HS5 := hide ((HS3.out.kept hk4 (fun _ _ h => h)).kept hk5 (fun k hk e => by omega))
  have c0 : w5.cell? ⟨w3.heap.size, 0, none⟩ = some (.int .i64 q0) := hb5.cell 0
  have hb5s : w3.heap.size ≠ s := by omega
  have hb5r : w3.heap.size ≠ w.heap.size := by omega
  have HN5 : Hid (N ≤ w3.heap.size) := hide (by omega)
  have hww3 : w.heap.size < w3.heap.size := by omega
  clear hz4 hz5 hk4 hk5 hb4 hb5 HB3 HS3 HK3
  try simp only [put_lit, put_none, List.set_cons_succ, List.set_cons_zero]
  by_cases h2 : q0 = 2
  · have HDa : Hid (GD B ⟨q0, 0, 0, ([] : List Wv).map Wv.wr⟩ S0 E0) := hide (HD0.out h2)
    clear HD0 HD1 HD2 HC1 HC2
    subst h2
    have HWn : Hid (WsAt w5 (.slice none 0 0) []) := hide (WsAt.nil _)
    go_wp2_with fail
    refine (err_sc N _ s S0 E0 HS5.out).mono ?_
    rintro e w8 ⟨rfl, rfl⟩
    by_cases hE : E0 = 0
    · have HD' := HDa.out
      rw [hE] at HD'
      have HDD := hide HD'
      clear HD'
      subst hE
      go_wp2_with fail
      refine (left_sc N _ s S0 0 HS5.out).mono ?_
      rintro e w8 ⟨rfl, rfl⟩
      by_cases hS : S0.length = 0
      · have hSi : ((S0.length : Nat) : Int) = 0 := by omega
        have HSL := hide hS
        clear hS
        have d0 : w5.cell? ⟨w3.heap.size, 0, none⟩ = some (.int .i64 2) := HB5.out.cell 0
        have d1 : w5.cell? ⟨w3.heap.size, 1, none⟩ = some (.int .i64 0) := HB5.out.cell 1
        have d2 : w5.cell? ⟨w3.heap.size, 2, none⟩ = some (.int .i64 0) := HB5.out.cell 2
        have d3 : w5.cell? ⟨w3.heap.size, 3, none⟩ = some (.slice none 0 0) := HB5.out.cell 3
        go_wp2_with fail
        obtain ⟨rb, hrb⟩ : ∃ rb, rightR ⟨2, 0, 0, ([]).map Wv.wr⟩ = rb := ⟨_, rfl⟩
        refine (rcrightP_at _ 2 0 0 ⟨none, 0, 0⟩ ([]) HWn.out rb hrb).mono ?_
        rintro e w9 ⟨rfl, hk9⟩
        have HRB := hide hrb
        have HBR9 := hide (hk9.blk HBr.out (fun h => h))
        have HB9 := hide (hk9.blk HB5.out (fun h => h))
        have HK9 : Hid (Kept (fun _ => False) w w9) := hide (HK5.out.trans hk9 (fun _ _ h => h))
        have HW9 := hide (HWn.out.kept hk9)
        clear hrb hk9 d0 d1 d2 d3
        cases rb with
        | true =>
          go_wp2_with (first
            | (with_reducible refine aw_load (x := .tmp 5) (M := [.int .i64 2, .int .i64 0, .int .i64 0, .slice none 0 0]) Try.agg37 rfl HB9.out (by simp) rfl ?_)
            | ((with_reducible refine aw_store (x := .tmp 2) (M := [.int .i64 2, .int .i64 0, .int .i64 0, .slice none 0 0]) Try.agg37 rfl rfl rfl (by simp [Value.oneCell']) HBR9.out (by simp) ?_); intro wz hbz hkz hzz; rw [put_whole _ _ (by simp)] at hbz)
            | fail)
          refine bodyPost_ret (results_cell2 (t := 2) (u := 3) (ty := 37) rfl Try.agg37 rfl hbz rfl) rfl ?_
          have hkF : Kept (fun _ => False) w wz := HK9.out.trans hkz (fun k hk e => by omega)
          refine ⟨⟨2, 0, 0, ⟨none, 0, 0⟩, []⟩, 0, rfl, ⟨?_, .inl ⟨HDD.out.yes HSL.out HRB.out, rfl⟩⟩, hkF⟩
          exact ⟨WsOwn.nil _, NewOf.nil _, by decide⟩
        | false =>
          go_wp2_with (first
            | ((with_reducible refine wpList_run rfl r_build24_0 ?_))
            | ((with_reducible refine aw_store (x := .tmp 2) (M := [.int .i64 0, .int .i64 0, .int .i64 0, .slice none 0 0]) Try.agg37 rfl rfl rfl (by simp [Value.oneCell']) HBR9.out (by simp) ?_); intro wz hbz hkz hzz; rw [put_whole _ _ (by simp)] at hbz)
            | fail)
          refine bodyPost_ret (results_cell2 (t := 2) (u := 3) (ty := 37) rfl Try.agg37 rfl hbz rfl) rfl ?_
          exact ⟨rv0, 20, rfl, getIs_none _ (HDD.out.wrong HRB.out), HK9.out.trans hkz (fun k hk e => by omega)⟩
      · have hSi : ¬ ((S0.length : Nat) : Int) = 0 := by omega
        go_wp2_with (first
          | ((with_reducible refine wpList_run rfl r_build24_0 ?_))
          | ((with_reducible refine aw_store (x := .tmp 2) (M := [.int .i64 0, .int .i64 0, .int .i64 0, .slice none 0 0]) Try.agg37 rfl rfl rfl (by simp [Value.oneCell']) HBr.out (by simp) ?_); intro wz hbz hkz hzz; rw [put_whole _ _ (by simp)] at hbz)
          | fail)
        refine bodyPost_ret (results_cell2 (t := 2) (u := 3) (ty := 37) rfl Try.agg37 rfl hbz rfl) rfl ?_
        exact ⟨rv0, 20, rfl, getIs_none _ (HDD.out.left hS), HK5.out.trans hkz (fun k hk e => by omega)⟩
    · have hEi : ¬ (E0 : Int) = 0 := hE
      go_wp2_with (first
        | ((with_reducible refine wpList_run rfl r_build24_0 ?_))
        | ((with_reducible refine aw_store (x := .tmp 2) (M := [.int .i64 0, .int .i64 0, .int .i64 0, .slice none 0 0]) Try.agg37 rfl rfl rfl (by simp [Value.oneCell']) HBr.out (by simp) ?_); intro wz hbz hkz hzz; rw [put_whole _ _ (by simp)] at hbz)
        | fail)
      refine bodyPost_ret (results_cell2 (t := 2) (u := 3) (ty := 37) rfl Try.agg37 rfl hbz rfl) rfl ?_
      exact ⟨rv0, 20, rfl, getIs_none _ (HDa.out.err hE), HK5.out.trans hkz (fun k hk e => by omega)⟩
  · go_wp2_with fail
    refine (HC1.out N _ s HS5.out).mono ?_
    rintro e w6 ⟨rfl, hsc6, hk6⟩
    have HB6 := hide (hk6.blk HB5.out hb5s)
    have HBr6 := hide (hk6.blk HBr.out (by omega))
    have HK6 : Hid (Kept (fun _ => False) w w6) := hide (HK5.out.trans hk6 (fun k hk e => by omega))
    have HS6 := hide hsc6
    clear hsc6 hk6 HC1 HB5 HBr HK5 HS5 c0
    go_wp2_with (first
      | ((with_reducible refine aw_store1 (t := 3) (v := .int .i64 q1) Hi3.out Hs3.out rfl rfl rfl rfl HB6.out (by simp) ?_); intro wa hba hka hza; have HBa := hide hba; have HBra := hide (hka.blk HBr6.out (by omega)); have HKa : Hid (Kept (fun _ => False) w wa) := hide (HK6.out.trans hka (fun k hk e => by omega)); have HSa := hide (HS6.out.kept hka (fun k hk e => by have := HN5.out; omega)); clear hba hka hza HB6 HBr6 HK6 HS6)
      | fail)
    refine (HC2.out N _ s HSa.out).mono ?_
    rintro e w6 ⟨rfl, hsc6, hk6⟩
    have HB6 := hide (hk6.blk HBa.out hb5s)
    have HBr6 := hide (hk6.blk HBra.out (by omega))
    have HK6 : Hid (Kept (fun _ => False) w w6) := hide (HKa.out.trans hk6 (fun k hk e => by omega))
    have HS6 := hide hsc6
    clear hsc6 hk6 HC2 HBa HBra HKa HSa
    by_cases h3 : q0 = 3
    · have HDc := hide (fun l S' E' => HD2.out l S' E' h3)
      clear HD0 HD1 HD2
      subst h3
      go_wp2_with (first
        | ((with_reducible refine aw_store1 (t := 3) (v := .int .i64 q2) Hi3.out Hs3.out rfl rfl rfl rfl HB6.out (by simp) ?_); intro wb hbb hkb hzb; have HBb := hide hbb; have HBrb := hide (hkb.blk HBr6.out (by omega)); have HKb : Hid (Kept (fun _ => False) w wb) := hide (HK6.out.trans hkb (fun k hk e => by omega)); have HSb := hide (HS6.out.kept hkb (fun k hk e => by have := HN5.out; omega)); have c0 : wb.cell? ⟨w3.heap.size, 0, none⟩ = some (.int .i64 3) := hbb.cell 0; clear hbb hkb hzb HB6 HBr6 HK6 HS6)
        | fail)
      refine (getWrites_at N _ s S2 E2 HSb.out (by omega)).mono ?_
      rintro e wc ⟨⟨ta, tn, tc⟩, ws, S3, E3, rfl, hscc, hOc, hwl, hkc, hgw, hnw⟩
      have HNw : Hid (NewOf w.heap.size (Sl.mk ta tn tc).v ws) := hide (hnw.le HKb.out.size)
      clear hnw
      have HBc := hide (hkc.blk HBb.out hb5s)
      have HBrc := hide (hkc.blk HBrb.out (by omega))
      have HKc : Hid (Kept (fun _ => False) w wc) := hide (HKb.out.trans hkc (fun k hk e => by omega))
      have HSc := hide hscc
      have HOc := hide hOc
      have HDe := hide (HDc.out _ _ _ hgw)
      clear hscc hOc hkc hgw HBb HBrb HKb HSb c0 HDc
      go_wp2_with (first
        | ((with_reducible refine aw_store1 (t := 35) (v := .slice ta tn tc) Hi2.out Hs2.out rfl rfl rfl rfl HBc.out (by simp) ?_); intro wd hbd hkd hzd; have HBd := hide hbd; have HBrd := hide (hkd.blk HBrc.out (by omega)); have HKd : Hid (Kept (fun _ => False) w wd) := hide (HKc.out.trans hkd (fun k hk e => by omega)); have HSd := hide (HSc.out.kept hkd (fun k hk e => by have := HN5.out; omega)); have HWd := hide ((HOc.out.keptB HBc.out (by decide) (by decide) hkd).at (by omega)); have HOd := hide (HOc.out.keptB HBc.out (by decide) (by decide) hkd); clear hbd hkd hzd HBc HBrc HKc HSc HOc)
        | fail)
      refine (err_sc N _ s S3 E3 HSd.out).mono ?_
      rintro e w8 ⟨rfl, rfl⟩
      by_cases hE : E3 = 0
      · have HD' := HDe.out
        rw [hE] at HD'
        have HDD := hide HD'
        clear HD'
        subst hE
        go_wp2_with fail
        refine (left_sc N _ s S3 0 HSd.out).mono ?_
        rintro e w8 ⟨rfl, rfl⟩
        by_cases hS : S3.length = 0
        · have hSi : ((S3.length : Nat) : Int) = 0 := by omega
          have HSL := hide hS
          clear hS
          have d0 : wd.cell? ⟨w3.heap.size, 0, none⟩ = some (.int .i64 3) := HBd.out.cell 0
          have d1 : wd.cell? ⟨w3.heap.size, 1, none⟩ = some (.int .i64 q1) := HBd.out.cell 1
          have d2 : wd.cell? ⟨w3.heap.size, 2, none⟩ = some (.int .i64 q2) := HBd.out.cell 2
          have d3 : wd.cell? ⟨w3.heap.size, 3, none⟩ = some (.slice ta tn tc) := HBd.out.cell 3
          go_wp2_with fail
          obtain ⟨rb, hrb⟩ : ∃ rb, rightR ⟨3, q1, q2, (ws).map Wv.wr⟩ = rb := ⟨_, rfl⟩
          refine (rcrightP_at _ 3 q1 q2 ⟨ta, tn, tc⟩ (ws) HWd.out rb hrb).mono ?_
          rintro e w9 ⟨rfl, hk9⟩
          have HRB := hide hrb
          have HBR9 := hide (hk9.blk HBrd.out (fun h => h))
          have HB9 := hide (hk9.blk HBd.out (fun h => h))
          have HK9 : Hid (Kept (fun _ => False) w w9) := hide (HKd.out.trans hk9 (fun _ _ h => h))
          have HW9 := hide (HWd.out.kept hk9)
          have HK9w := hide hk9
          clear hrb hk9 d0 d1 d2 d3
          cases rb with
          | true =>
            go_wp2_with (first
              | (with_reducible refine aw_load (x := .tmp 5) (M := [.int .i64 3, .int .i64 q1, .int .i64 q2, .slice ta tn tc]) Try.agg37 rfl HB9.out (by simp) rfl ?_)
              | ((with_reducible refine aw_store (x := .tmp 2) (M := [.int .i64 3, .int .i64 q1, .int .i64 q2, .slice ta tn tc]) Try.agg37 rfl rfl rfl (by simp [Value.oneCell']) HBR9.out (by simp) ?_); intro wz hbz hkz hzz; rw [put_whole _ _ (by simp)] at hbz)
              | fail)
            refine bodyPost_ret (results_cell2 (t := 2) (u := 3) (ty := 37) rfl Try.agg37 rfl hbz rfl) rfl ?_
            have hkF : Kept (fun _ => False) w wz := HK9.out.trans hkz (fun k hk e => by omega)
            refine ⟨⟨3, q1, q2, ⟨ta, tn, tc⟩, ws⟩, 0, rfl, ⟨?_, .inl ⟨HDD.out.yes HSL.out HRB.out, rfl⟩⟩, hkF⟩
            exact ⟨((HOd.out.keptF HK9w.out).keptB HBR9.out (by decide) (by decide) hkz), HNw.out, hwl⟩
          | false =>
            go_wp2_with (first
              | ((with_reducible refine wpList_run rfl r_build24_0 ?_))
              | ((with_reducible refine aw_store (x := .tmp 2) (M := [.int .i64 0, .int .i64 0, .int .i64 0, .slice none 0 0]) Try.agg37 rfl rfl rfl (by simp [Value.oneCell']) HBR9.out (by simp) ?_); intro wz hbz hkz hzz; rw [put_whole _ _ (by simp)] at hbz)
              | fail)
            refine bodyPost_ret (results_cell2 (t := 2) (u := 3) (ty := 37) rfl Try.agg37 rfl hbz rfl) rfl ?_
            exact ⟨rv0, 20, rfl, getIs_none _ (HDD.out.wrong HRB.out), HK9.out.trans hkz (fun k hk e => by omega)⟩
        · have hSi : ¬ ((S3.length : Nat) : Int) = 0 := by omega
          go_wp2_with (first
            | ((with_reducible refine wpList_run rfl r_build24_0 ?_))
            | ((with_reducible refine aw_store (x := .tmp 2) (M := [.int .i64 0, .int .i64 0, .int .i64 0, .slice none 0 0]) Try.agg37 rfl rfl rfl (by simp [Value.oneCell']) HBrd.out (by simp) ?_); intro wz hbz hkz hzz; rw [put_whole _ _ (by simp)] at hbz)
            | fail)
          refine bodyPost_ret (results_cell2 (t := 2) (u := 3) (ty := 37) rfl Try.agg37 rfl hbz rfl) rfl ?_
          exact ⟨rv0, 20, rfl, getIs_none _ (HDD.out.left hS), HKd.out.trans hkz (fun k hk e => by omega)⟩
      · have hEi : ¬ (E3 : Int) = 0 := hE
        go_wp2_with (first
          | ((with_reducible refine wpList_run rfl r_build24_0 ?_))
          | ((with_reducible refine aw_store (x := .tmp 2) (M := [.int .i64 0, .int .i64 0, .int .i64 0, .slice none 0 0]) Try.agg37 rfl rfl rfl (by simp [Value.oneCell']) HBrd.out (by simp) ?_); intro wz hbz hkz hzz; rw [put_whole _ _ (by simp)] at hbz)
          | fail)
        refine bodyPost_ret (results_cell2 (t := 2) (u := 3) (ty := 37) rfl Try.agg37 rfl hbz rfl) rfl ?_
        exact ⟨rv0, 20, rfl, getIs_none _ (HDe.out.err hE), HKd.out.trans hkz (fun k hk e => by omega)⟩
    · have HDf : Hid (GD B ⟨q0, q1, q2, ([] : List Wv).map Wv.wr⟩ S2 E2) := hide (HD1.out h2 h3)
      clear HD0 HD1 HD2
      go_wp2_with (first
        | ((with_reducible refine aw_store1 (t := 3) (v := .int .i64 q2) Hi3.out Hs3.out rfl rfl rfl rfl HB6.out (by simp) ?_); intro wb hbb hkb hzb; have HBb := hide hbb; have HBrb := hide (hkb.blk HBr6.out (by omega)); have HKb : Hid (Kept (fun _ => False) w wb) := hide (HK6.out.trans hkb (fun k hk e => by omega)); have HSb := hide (HS6.out.kept hkb (fun k hk e => by have := HN5.out; omega)); have c0 : wb.cell? ⟨w3.heap.size, 0, none⟩ = some (.int .i64 q0) := hbb.cell 0; clear hbb hkb hzb HB6 HBr6 HK6 HS6)
        | fail)
      have HWn : Hid (WsAt wb (.slice none 0 0) []) := hide (WsAt.nil _)
      refine (err_sc N _ s S2 E2 HSb.out).mono ?_
      rintro e w8 ⟨rfl, rfl⟩
      by_cases hE : E2 = 0
      · have HD' := HDf.out
        rw [hE] at HD'
        have HDD := hide HD'
        clear HD'
        subst hE
        go_wp2_with fail
        refine (left_sc N _ s S2 0 HSb.out).mono ?_
        rintro e w8 ⟨rfl, rfl⟩
        by_cases hS : S2.length = 0
        · have hSi : ((S2.length : Nat) : Int) = 0 := by omega
          have HSL := hide hS
          clear hS
          have d0 : wb.cell? ⟨w3.heap.size, 0, none⟩ = some (.int .i64 q0) := HBb.out.cell 0
          have d1 : wb.cell? ⟨w3.heap.size, 1, none⟩ = some (.int .i64 q1) := HBb.out.cell 1
          have d2 : wb.cell? ⟨w3.heap.size, 2, none⟩ = some (.int .i64 q2) := HBb.out.cell 2
          have d3 : wb.cell? ⟨w3.heap.size, 3, none⟩ = some (.slice none 0 0) := HBb.out.cell 3
          go_wp2_with fail
          obtain ⟨rb, hrb⟩ : ∃ rb, rightR ⟨q0, q1, q2, ([]).map Wv.wr⟩ = rb := ⟨_, rfl⟩
          refine (rcrightP_at _ q0 q1 q2 ⟨none, 0, 0⟩ ([]) HWn.out rb hrb).mono ?_
          rintro e w9 ⟨rfl, hk9⟩
          have HRB := hide hrb
          have HBR9 := hide (hk9.blk HBrb.out (fun h => h))
          have HB9 := hide (hk9.blk HBb.out (fun h => h))
          have HK9 : Hid (Kept (fun _ => False) w w9) := hide (HKb.out.trans hk9 (fun _ _ h => h))
          have HW9 := hide (HWn.out.kept hk9)
          clear hrb hk9 d0 d1 d2 d3
          cases rb with
          | true =>
            go_wp2_with (first
              | (with_reducible refine aw_load (x := .tmp 5) (M := [.int .i64 q0, .int .i64 q1, .int .i64 q2, .slice none 0 0]) Try.agg37 rfl HB9.out (by simp) rfl ?_)
              | ((with_reducible refine aw_store (x := .tmp 2) (M := [.int .i64 q0, .int .i64 q1, .int .i64 q2, .slice none 0 0]) Try.agg37 rfl rfl rfl (by simp [Value.oneCell']) HBR9.out (by simp) ?_); intro wz hbz hkz hzz; rw [put_whole _ _ (by simp)] at hbz)
              | fail)
            refine bodyPost_ret (results_cell2 (t := 2) (u := 3) (ty := 37) rfl Try.agg37 rfl hbz rfl) rfl ?_
            have hkF : Kept (fun _ => False) w wz := HK9.out.trans hkz (fun k hk e => by omega)
            refine ⟨⟨q0, q1, q2, ⟨none, 0, 0⟩, []⟩, 0, rfl, ⟨?_, .inl ⟨HDD.out.yes HSL.out HRB.out, rfl⟩⟩, hkF⟩
            exact ⟨WsOwn.nil _, NewOf.nil _, Nat.zero_le _⟩
          | false =>
            go_wp2_with (first
              | ((with_reducible refine wpList_run rfl r_build24_0 ?_))
              | ((with_reducible refine aw_store (x := .tmp 2) (M := [.int .i64 0, .int .i64 0, .int .i64 0, .slice none 0 0]) Try.agg37 rfl rfl rfl (by simp [Value.oneCell']) HBR9.out (by simp) ?_); intro wz hbz hkz hzz; rw [put_whole _ _ (by simp)] at hbz)
              | fail)
            refine bodyPost_ret (results_cell2 (t := 2) (u := 3) (ty := 37) rfl Try.agg37 rfl hbz rfl) rfl ?_
            exact ⟨rv0, 20, rfl, getIs_none _ (HDD.out.wrong HRB.out), HK9.out.trans hkz (fun k hk e => by omega)⟩
        · have hSi : ¬ ((S2.length : Nat) : Int) = 0 := by omega
          go_wp2_with (first
            | ((with_reducible refine wpList_run rfl r_build24_0 ?_))
            | ((with_reducible refine aw_store (x := .tmp 2) (M := [.int .i64 0, .int .i64 0, .int .i64 0, .slice none 0 0]) Try.agg37 rfl rfl rfl (by simp [Value.oneCell']) HBrb.out (by simp) ?_); intro wz hbz hkz hzz; rw [put_whole _ _ (by simp)] at hbz)
            | fail)
          refine bodyPost_ret (results_cell2 (t := 2) (u := 3) (ty := 37) rfl Try.agg37 rfl hbz rfl) rfl ?_
          exact ⟨rv0, 20, rfl, getIs_none _ (HDD.out.left hS), HKb.out.trans hkz (fun k hk e => by omega)⟩
      · have hEi : ¬ (E2 : Int) = 0 := hE
        go_wp2_with (first
          | ((with_reducible refine wpList_run rfl r_build24_0 ?_))
          | ((with_reducible refine aw_store (x := .tmp 2) (M := [.int .i64 0, .int .i64 0, .int .i64 0, .slice none 0 0]) Try.agg37 rfl rfl rfl (by simp [Value.oneCell']) HBrb.out (by simp) ?_); intro wz hbz hkz hzz; rw [put_whole _ _ (by simp)] at hbz)
          | fail)
        refine bodyPost_ret (results_cell2 (t := 2) (u := 3) (ty := 37) rfl Try.agg37 rfl hbz rfl) rfl ?_
        exact ⟨rv0, 20, rfl, getIs_none _ (HDf.out.err hE), HKb.out.trans hkz (fun k hk e => by omega)⟩
end Go.Proofs.Ytbbhchmdggfncaa


/-
  putWrites, of package record.
-/
namespace Go.Proofs.Ytbbhchmdggfncaa
open Go.RowKit Go.Shelf
set_option linter.unusedSimpArgs false
set_option linter.unusedVariables false
set_option maxRecDepth 100000

theorem penNum_byte (A : List Nat) (x : Nat) (h : x < 256) : penNum A (x : Int) 1 = A ++ [x] := by
  have hf : fitsN (x : Int) 1 = true := by unfold fitsN; simp; omega
  unfold penNum
  rw [if_pos hf]
  simp [numB]
  omega
theorem penNum_two (A : List Nat) (x : Int) (h0 : 0 ≤ x) (h : x < 65536) : penNum A x 2 = A ++ numB x.toNat 2 := by
  have hf : fitsN x 2 = true := by unfold fitsN; simp; omega
  unfold penNum
  rw [if_pos hf]
  rfl
theorem encWs_snoc (l : List Wr) (x : Wr) : encWs (l ++ [x]) = encWs l ++ (numB x.blk.toNat 2 ++ x.B) := by simp [encWs, encW]
theorem number_pnB (w0 w : World) (p : Nat) (A : List Nat) (hp : Pn w0 w p A) (hl : A.length ≤ 90000000) (n m : Int) (hn : n ≤ 9223372036854775807) {b : Nat} {L : List Value} {t : TypeId} (hb : Blk w b L t) (ht : t ≠ 5) (ht2 : t ≠ 100) :
    Calls Try.prog 57 #[.pointer (some ⟨p, 0, none⟩), .int .i64 n, .int .i64 m] w fun e w' => e = .returned (.bool (fitsN n m)) ∧ Pn w0 w' p (penNum A n m) ∧ Blk w' b L t := by
  obtain ⟨h1, h2, v, h3, h4⟩ := hp
  refine (number_at w p v A h3 hl n m hn).mono ?_
  rintro e w' ⟨v', rfl, hp', hk, hm⟩
  refine ⟨rfl, Pn.of h1 h2 h4 hp' hk hm, hk.blk hb (fun h => ?_)⟩
  rcases h with h | h
  · exact (hb.ne h3.1 ht2) h
  · exact h3.ne (L := []) hb ht h
theorem take_wr {l : List Wv} {k : Nat} (hk : k < l.length) : (l.take (k + 1)).map Wv.wr = (l.take k).map Wv.wr ++ [l[k].wr] := by
  rw [List.take_succ_eq_append_getElem hk, List.map_append]; rfl

set_option maxRecDepth 100000 in
set_option maxHeartbeats 4000000 in
theorem putWrites_at (w0 w : World) (p : Nat) (A : List Nat) (v : Value) (l : List Wv) (hp : Pn w0 w p A) (hA : A.length ≤ 100) (h : WsAt w0 v l) (hg : goodFrom (-1) (l.map Wv.wr) = true) :
    Calls Try.prog 58 #[.pointer (some ⟨p, 0, none⟩), v] w fun e w' => (∃ u, e = .returned u) ∧ Pn w0 w' p (A ++ (numB l.length 2 ++ encWs (l.map Wv.wr))) := by
  obtain ⟨ao, cap, rfl⟩ := h.slice
  have hlen := goodFrom_len (l := l.map Wv.wr) (lo := -1) (by decide) (by decide) hg
  rw [List.length_map] at hlen
  have hmem : ∀ k (hk : k < l.length), 0 ≤ l[k].blk ∧ l[k].blk < 64 ∧ l[k].B.length = 64 := fun k hk => (goodFrom_mem hg l[k].wr (List.mem_map_of_mem (List.getElem_mem hk))).2
  have hel : ∀ k, k ≤ l.length → (encWs ((l.take k).map Wv.wr)).length = 66 * k := fun k hk => by
    rw [encWs_length (fun x hx => by
      obtain ⟨y, hy, rfl⟩ := List.mem_map.1 hx
      exact (goodFrom_mem hg y.wr (List.mem_map_of_mem (List.mem_of_mem_take hy))).2.2.2)]
    simp
    omega
  obtain ⟨i0, hi0, hz0, hs0, hb0⟩ := info_parts Try.info39
  have Hi0 := hide hi0
  have Hz0 := hide hz0
  have HW := hide h
  have HP := hide hp
  have HM := hide hmem
  have HE := hide hel
  have hl64 : l.length ≤ 64 := by omega
  have H2 : Hid (penNum A (l.length : Int) 2 = A ++ numB l.length 2) := hide (by rw [penNum_two _ _ (by omega) (by omega)]; rfl)
  clear h hi0 hz0 hs0 hb0 hp hmem hel hg hlen
  go_enter Try.func58, Try.ntmps58
  go_wp2_with fail
  refine (number_pn w0 w p A HP.out (by omega) _ 2 (by omega)).mono ?_
  rintro e w1 ⟨rfl, hp1⟩
  rw [H2.out] at hp1
  have HP1 := hide hp1
  clear hp1 H2 HP
  go_wp2
  go_loopw [14] (fun i wr => ∃ (k : Nat), i = .int .i64 k ∧ k ≤ l.length ∧ Hid (Pn w0 wr p (A ++ (numB l.length 2 ++ encWs ((l.take k).map Wv.wr)))))
    (fun i _ => l.length - (intOf i).toNat)
  case atStart => exact ⟨0, rfl, Nat.zero_le _, hide (by simpa [encWs] using HP1.out)⟩
  case round =>
    obtain ⟨k, rfl, hk, HI⟩ := hrel
    clear HP1
    by_cases hlt : k < l.length
    · obtain ⟨g, off, rfl, c0, c1, hsrc, hn⟩ := (HW.out.kept HI.out.base).get hlt
      have hm := HM.out k hlt
      have HT := hide (take_wr hlt)
      have HEk := hide (HE.out k hk)
      have HS0 := hide ((HW.out.2.1 l[k] (List.getElem_mem hlt)))
      obtain ⟨x, hx⟩ : ∃ x, x = l[k] := ⟨_, rfl⟩
      rw [← hx] at c0 c1 hm hn HT HS0
      obtain ⟨bk, ⟨xa, xn, xc⟩, xB⟩ := x
      simp only [Wv.wr, Sl.v] at c0 c1 hm hn HT HS0
      obtain ⟨hb0, hb1, hb2⟩ := hm
      obtain rfl : xn = 64 := by omega
      have HXB := hide hb2
      obtain ⟨D, hD⟩ : ∃ D, D = A ++ (numB l.length 2 ++ encWs ((l.take k).map Wv.wr)) := ⟨_, rfl⟩
      have hDl : D.length ≤ 5000 := by rw [hD, List.length_append, List.length_append, numB_length, HEk.out]; omega
      rw [← hD] at HI
      have HDD := hide hD
      have HBK : Hid (penNum D bk 2 = D ++ numB bk.toNat 2) := hide (penNum_two D bk hb0 (by omega))
      have hbi : bk ≤ 9223372036854775807 := by omega
      clear hsrc hn hx hb2 hD hb0 hb1 HM HE
      go_wp2_with (first
        | ((with_reducible refine aw_alloc (t := 39) Hi0.out Hz0.out ?_); intro w2 hw2 hk2 hz2; have Hz2 := hide hz2; clear hz2 c0 c1)
        | ((with_reducible refine aw_store (M := [.int .i64 bk, .slice xa 64 xc]) Try.agg39 rfl rfl rfl (by simp [Value.oneCell']) hw2 (by simp [Value.cells]) ?_); intro w3 hw3 hk3 hz3; rw [put_whole _ _ (by simp [Value.cells])] at hw3; have d0 : w3.cell? ⟨wr.heap.size, 0, none⟩ = some (.int .i64 bk) := hw3.cell 0; have HW3 := hide hw3; have HK3 := hide (hk2.trans hk3 (fun i hi h => by omega)); clear hz3 hw2 hw3 hk2 hk3)
        | fail)
      refine (number_pnB w0 w3 p D (HI.out.kept HK3.out) (by omega) bk 2 hbi HW3.out (by decide) (by decide)).mono ?_
      rintro e w4 ⟨rfl, hp4, hb4⟩
      rw [HBK.out] at hp4
      have d1 : w4.cell? ⟨wr.heap.size, 1, none⟩ = some (.slice xa 64 xc) := hb4.cell 1
      have HP4 := hide hp4
      clear hp4 hb4 HBK HI
      obtain ⟨wz, hwz⟩ : ∃ wz, wz = wr.heap.size := ⟨_, rfl⟩
      rw [← hwz] at d1 ⊢
      clear hwz Hz2 HK3 HW3 d0
      go_wp2
      go_loopw [25] (fun j wq => ∃ (q : Nat), j = .int .i64 q ∧ q ≤ 64 ∧ Hid (Pn w0 wq p (D ++ numB bk.toNat 2 ++ xB.take q)))
        (fun j _ => 64 - (intOf j).toNat)
      case atStart => exact ⟨0, rfl, Nat.zero_le _, hide (by simpa using HP4.out)⟩
      case round =>
        obtain ⟨q, rfl, hq, HJ⟩ := hrel
        clear HP4 d1
        by_cases hlt2 : q < 64
        · obtain ⟨bo, c, e, _, hxl, hxc, _⟩ := HS0.out.kept HJ.out.base
          simp only [Value.slice.injEq] at e
          obtain ⟨rfl, -, rfl⟩ := e
          obtain ⟨sb, so, rfl, hcs⟩ := hxc (by have := HXB.out; omega)
          have hqx : q < xB.length := by have := HXB.out; omega
          have c2 := hcs q _ (BV_get xB q hqx)
          obtain ⟨z, hz⟩ : ∃ z, z = xB[q] := ⟨_, rfl⟩
          rw [← hz] at c2
          have hz256 : z < 256 := by rw [hz]; exact hxl _ (List.getElem_mem _)
          have HZ : Hid (xB.take (q + 1) = xB.take q ++ [z]) := hide (by rw [List.take_succ_eq_append_getElem hqx, hz])
          have HZ2 := hide (penNum_byte (D ++ numB bk.toNat 2 ++ xB.take q) z hz256)
          have HL : Hid ((D ++ numB bk.toNat 2 ++ xB.take q).length ≤ 90000000) := hide (by simp [numB_length]; omega)
          clear hxl hxc hcs hz hqx
          go_wp2_with fail
          refine (number_pn w0 _ p _ HJ.out HL.out _ 1 (by omega)).mono ?_
          rintro e w5 ⟨rfl, hp5⟩
          rw [HZ2.out] at hp5
          have HP5 := hide hp5
          clear hp5 c2 HZ2 HJ
          go_wp2
          go_roundw
          case rel => exact ⟨q + 1, by simp, by omega, hide (by rw [HZ.out, ← List.append_assoc]; exact HP5.out)⟩
          case measure => simp [intOf]; omega
        · obtain rfl : q = 64 := by omega
          go_wp2
          go_roundw
          case rel => exact ⟨k + 1, by simp, by omega, hide (by
            have h := HJ.out
            rw [List.take_of_length_le (by have := HXB.out; omega), HDD.out] at h
            rw [HT.out, encWs_snoc]
            simpa using h)⟩
          case measure => simp [intOf]; omega
    · obtain rfl : l.length = k := by omega
      go_wp2
      go_end0
      exact ⟨⟨_, rfl⟩, by simpa using HI.out⟩
end Go.Proofs.Ytbbhchmdggfncaa


/-
  Put, Sectors, of package record; frame.Sectors.
-/
namespace Go.Proofs.Ytbbhchmdggfncaa
open Go.RowKit Go.Shelf
set_option linter.unusedSimpArgs false
set_option linter.unusedVariables false
set_option maxRecDepth 100000

def putRN (r : Rc) : List Nat := if rightR r then putR r else []
theorem penNum_w (A : List Nat) (x : Int) (m : Nat) (h1 : 1 ≤ m) (h8 : m ≤ 8) (h0 : 0 ≤ x) (h : x.toNat < 256 ^ m) : penNum A x (m : Int) = A ++ numB x.toNat m := by
  have hf : fitsN x (m : Int) = true := by
    obtain ⟨n, rfl⟩ : ∃ n : Nat, x = n := ⟨x.toNat, by omega⟩
    rw [fits_eq h1 h8]
    simp only [decide_eq_true_eq]
    exact Nat.div_eq_of_lt (by simpa only [Int.toNat_natCast] using h)
  unfold penNum
  rw [if_pos hf]
  rfl
set_option maxRecDepth 100000 in
set_option maxHeartbeats 4000000 in
theorem rcputP_at (w : World) (kd tl nm : Int) (s : Sl) (l : List Wv) (h : WsAt w s.v l) :
    Calls Try.prog 46 #[rAgg kd tl nm s] w fun e w' => ∃ t : Sl, e = .returned (.slice t.a t.n t.c) ∧ Src w' t.v (putRN ⟨kd, tl, nm, l.map Wv.wr⟩) ∧ Kept (fun _ => False) w w' := by
  obtain ⟨xa, xn, xc⟩ := s
  obtain rfl : xn = l.length := WsAt.len h
  have HW := hide h
  obtain ⟨b, hb⟩ : ∃ b, rightR ⟨kd, tl, nm, l.map Wv.wr⟩ = b := ⟨_, rfl⟩
  have HR : Hid (∀ w', Kept (fun _ => False) w w' → Calls Try.prog 25 #[rAgg kd tl nm ⟨xa, l.length, xc⟩] w' fun e w'' => e = .returned (.bool b) ∧ Kept (fun _ => False) w' w'') := hide (fun w' hk => rcrightP_at w' kd tl nm ⟨xa, l.length, xc⟩ l (h.kept hk) b hb)
  have HB := hide hb
  obtain ⟨ip, hip, hzp, hsp, hbp⟩ := info_parts Try.info100
  have Hip := hide hip
  have Hzp := hide hzp
  clear h hb hip hzp hsp hbp
  cases b with
  | false =>
    have HN : Hid (putRN ⟨kd, tl, nm, l.map Wv.wr⟩ = []) := hide (by unfold putRN; rw [HB.out]; rfl)
    clear HB
    go_enter Try.func46, Try.ntmps46
    go_wp2_with (first
      | ((with_reducible refine aw_box (t := 37) (v := rAgg kd tl nm ⟨xa, l.length, xc⟩) rfl ?_); intro w1 hb1 hk1 hz1; have Hz1 := hide hz1; clear hz1)
      | ((with_reducible refine aw_load (t := 37) (M := [.int .i64 kd, .int .i64 tl, .int .i64 nm, .slice xa l.length xc]) Try.agg37 rfl hb1 (by simp [Value.cells]) (by simp [Value.cells]) ?_))
      | fail)
    refine (HR.out w1 hk1).mono ?_
    rintro e w2 ⟨rfl, hk2⟩
    go_wp2
    go_ret
    exact ⟨⟨none, 0, 0⟩, rfl, by rw [HN.out]; exact Src.nil _, hk1.trans hk2 (fun _ _ h => h)⟩
  | true =>
    by_cases h2 : kd = 2
    · subst h2
      have N1 : Hid (penNum [] 2 1 = [] ++ numB 2 1) := hide (by decide)
      have HN : Hid (putRN ⟨2, tl, nm, l.map Wv.wr⟩ = [] ++ numB 2 1) := hide (by unfold putRN; rw [HB.out]; simp [putR])
      clear HB
      go_enter Try.func46, Try.ntmps46
      go_wp2_with (first
        | ((with_reducible refine aw_box (t := 37) (v := rAgg 2 tl nm ⟨xa, l.length, xc⟩) rfl ?_); intro w1 hb1 hk1 hz1; have Hz1 := hide hz1; clear hz1)
        | ((with_reducible refine aw_load (t := 37) (M := [.int .i64 2, .int .i64 tl, .int .i64 nm, .slice xa l.length xc]) Try.agg37 rfl hb1 (by simp [Value.cells]) (by simp [Value.cells]) ?_))
        | fail)
      refine (HR.out w1 hk1).mono ?_
      rintro e w2 ⟨rfl, hk2⟩
      clear HR
      have hb2 := hk2.blk hb1 (fun h => h)
      clear hb1
      go_wp2_with (first
        | ((with_reducible refine aw_alloc (t := 100) Hip.out Hzp.out ?_); intro w3 hb3 hk3 hz3; have hb4 := hk3.blk hb2 (fun h => h); have c0 : w3.cell? ⟨w.heap.size, 0, none⟩ = some (.int .i64 2) := hb4.cell 0; clear hz3)
        | fail)
      have HPa : Hid (Pn w2 w3 w2.heap.size []) := hide ⟨Nat.le_refl _, hk3, _, pen_new hb3, fun k h => by simp [Value.ownBlock] at h⟩
      have HB2 := hide hb2
      have HKW := hide (hk1.trans hk2 (fun _ _ h => h))
      clear hb3 hk3 hb4 hb2
      refine (number_pn w2 w3 _ [] HPa.out (by simp) _ 1 (by omega)).mono ?_
      rintro e w4 ⟨rfl, hp4⟩
      rw [N1.out] at hp4
      have HP4 := hide hp4
      have c0' : w4.cell? ⟨w.heap.size, 0, none⟩ = some (.int .i64 2) := (HP4.out.base.blk HB2.out (fun h => h)).cell 0
      clear hp4 c0 N1 HPa
      go_wp2_with fail
      refine (bytes_pn w2 w4 _ _ HP4.out (by simp [numB_length])).mono ?_
      rintro e w8 ⟨t, rfl, hs8, hk8⟩
      obtain ⟨ta, tn, tc, rfl⟩ : ∃ a n c, t = .slice a n c := by
        obtain ⟨a, c, e, _⟩ := hs8
        exact ⟨a, _, c, e⟩
      have HS8 := hide hs8
      have HK8 := hide hk8
      clear hs8 hk8
      go_wp2
      go_ret
      exact ⟨⟨ta, tn, tc⟩, rfl, by rw [HN.out]; exact HS8.out, HKW.out.trans (HP4.out.base.trans HK8.out (fun _ _ h => h)) (fun _ _ h => h)⟩
    · have ht : 1 ≤ tl ∧ tl ≤ 2147483647 ∧ 0 ≤ nm ∧ nm ≤ 1099511627776 := by
        have h := HB.out
        unfold rightR at h
        simp only at h
        rw [if_neg h2] at h
        split at h
        · simp only [Bool.and_eq_true, tnOk, decide_eq_true_eq] at h; exact h.1
        · split at h
          · simp only [Bool.and_eq_true, tnOk, decide_eq_true_eq] at h; exact h.1.1
          · cases h
      obtain ⟨t1, t2, t3, t4⟩ := ht
      by_cases h1 : kd = 1
      · subst h1
        have N1 : Hid (penNum [] 1 1 = [] ++ numB 1 1) := hide (by decide)
        have N4 : Hid (penNum ([] ++ numB 1 1) tl 4 = [] ++ numB 1 1 ++ numB tl.toNat 4) := hide (penNum_w _ tl 4 (by decide) (by decide) (by omega) (by omega))
        have N8 : Hid (penNum ([] ++ numB 1 1 ++ numB tl.toNat 4) nm 8 = [] ++ numB 1 1 ++ numB tl.toNat 4 ++ numB nm.toNat 8) := hide (penNum_w _ nm 8 (by decide) (by decide) (by omega) (by omega))
        have HN : Hid (putRN ⟨1, tl, nm, l.map Wv.wr⟩ = [] ++ numB 1 1 ++ numB tl.toNat 4 ++ numB nm.toNat 8) := hide (by unfold putRN; rw [HB.out]; simp [putR])
        clear HB h2
        go_enter Try.func46, Try.ntmps46
        go_wp2_with (first
          | ((with_reducible refine aw_box (t := 37) (v := rAgg 1 tl nm ⟨xa, l.length, xc⟩) rfl ?_); intro w1 hb1 hk1 hz1; have Hz1 := hide hz1; clear hz1)
          | ((with_reducible refine aw_load (t := 37) (M := [.int .i64 1, .int .i64 tl, .int .i64 nm, .slice xa l.length xc]) Try.agg37 rfl hb1 (by simp [Value.cells]) (by simp [Value.cells]) ?_))
          | fail)
        refine (HR.out w1 hk1).mono ?_
        rintro e w2 ⟨rfl, hk2⟩
        clear HR
        have hb2 := hk2.blk hb1 (fun h => h)
        clear hb1
        go_wp2_with (first
          | ((with_reducible refine aw_alloc (t := 100) Hip.out Hzp.out ?_); intro w3 hb3 hk3 hz3; have hb4 := hk3.blk hb2 (fun h => h); have c0 : w3.cell? ⟨w.heap.size, 0, none⟩ = some (.int .i64 1) := hb4.cell 0; clear hz3)
          | fail)
        have HPa : Hid (Pn w2 w3 w2.heap.size []) := hide ⟨Nat.le_refl _, hk3, _, pen_new hb3, fun k h => by simp [Value.ownBlock] at h⟩
        have HB2 := hide hb2
        have HKW := hide (hk1.trans hk2 (fun _ _ h => h))
        clear hb3 hk3 hb4 hb2
        refine (number_pn w2 w3 _ [] HPa.out (by simp) _ 1 (by omega)).mono ?_
        rintro e w4 ⟨rfl, hp4⟩
        rw [N1.out] at hp4
        have HP4 := hide hp4
        have c0' : w4.cell? ⟨w.heap.size, 0, none⟩ = some (.int .i64 1) := (HP4.out.base.blk HB2.out (fun h => h)).cell 0
        clear hp4 c0 N1 HPa
        have c1 : w4.cell? ⟨w.heap.size, 1, none⟩ = some (.int .i64 tl) := (HP4.out.base.blk HB2.out (fun h => h)).cell 1
        go_wp2_with fail
        refine (number_pn w2 w4 _ _ HP4.out (by simp [numB_length]) _ 4 (by omega)).mono ?_
        rintro e w5 ⟨rfl, hp5⟩
        rw [N4.out] at hp5
        have HP5 := hide hp5
        have c2 : w5.cell? ⟨w.heap.size, 2, none⟩ = some (.int .i64 nm) := (HP5.out.base.blk HB2.out (fun h => h)).cell 2
        clear hp5 c0' c1 N4 HP4
        go_wp2_with fail
        refine (number_pn w2 w5 _ _ HP5.out (by simp [numB_length]) _ 8 (by omega)).mono ?_
        rintro e w6 ⟨rfl, hp6⟩
        rw [N8.out] at hp6
        have HP6 := hide hp6
        have c0 : w6.cell? ⟨w.heap.size, 0, none⟩ = some (.int .i64 1) := (HP6.out.base.blk HB2.out (fun h => h)).cell 0
        clear hp6 c2 N8 HP5
        go_wp2_with fail
        refine (bytes_pn w2 w6 _ _ HP6.out (by simp [numB_length])).mono ?_
        rintro e w8 ⟨t, rfl, hs8, hk8⟩
        obtain ⟨ta, tn, tc, rfl⟩ : ∃ a n c, t = .slice a n c := by
          obtain ⟨a, c, e, _⟩ := hs8
          exact ⟨a, _, c, e⟩
        have HS8 := hide hs8
        have HK8 := hide hk8
        clear hs8 hk8
        go_wp2
        go_ret
        exact ⟨⟨ta, tn, tc⟩, rfl, by rw [HN.out]; exact HS8.out, HKW.out.trans (HP6.out.base.trans HK8.out (fun _ _ h => h)) (fun _ _ h => h)⟩
      · obtain rfl : kd = 3 := by
          rcases Classical.em (kd = 3) with h | h
          · exact h
          · have hh := HB.out
            simp [rightR, h1, h2, h] at hh
        have HG : Hid (goodFrom (-1) (l.map Wv.wr) = true) := hide (by
          have h := HB.out
          simp [rightR] at h
          exact h.2)
        have N1 : Hid (penNum [] 3 1 = [] ++ numB 3 1) := hide (by decide)
        have N4 : Hid (penNum ([] ++ numB 3 1) tl 4 = [] ++ numB 3 1 ++ numB tl.toNat 4) := hide (penNum_w _ tl 4 (by decide) (by decide) (by omega) (by omega))
        have N8 : Hid (penNum ([] ++ numB 3 1 ++ numB tl.toNat 4) nm 8 = [] ++ numB 3 1 ++ numB tl.toNat 4 ++ numB nm.toNat 8) := hide (penNum_w _ nm 8 (by decide) (by decide) (by omega) (by omega))
        have HN : Hid (putRN ⟨3, tl, nm, l.map Wv.wr⟩ = [] ++ numB 3 1 ++ numB tl.toNat 4 ++ numB nm.toNat 8 ++ (numB l.length 2 ++ encWs (l.map Wv.wr))) := hide (by unfold putRN; rw [HB.out]; simp [putR])
        have HLE : Hid (([] ++ numB 3 1 ++ numB tl.toNat 4 ++ numB nm.toNat 8 ++ (numB l.length 2 ++ encWs (l.map Wv.wr))).length ≤ 90000000) := hide (by
          have h1 := goodFrom_len (l := l.map Wv.wr) (lo := -1) (by decide) (by decide) HG.out
          have h2 := encWs_length (l := l.map Wv.wr) (fun x hx => (goodFrom_mem HG.out x hx).2.2.2)
          rw [List.length_map] at h1 h2
          simp only [List.length_append, numB_length, h2, List.length_nil]
          omega)
        clear HB h1 h2
        go_enter Try.func46, Try.ntmps46
        go_wp2_with (first
          | ((with_reducible refine aw_box (t := 37) (v := rAgg 3 tl nm ⟨xa, l.length, xc⟩) rfl ?_); intro w1 hb1 hk1 hz1; have Hz1 := hide hz1; clear hz1)
          | ((with_reducible refine aw_load (t := 37) (M := [.int .i64 3, .int .i64 tl, .int .i64 nm, .slice xa l.length xc]) Try.agg37 rfl hb1 (by simp [Value.cells]) (by simp [Value.cells]) ?_))
          | fail)
        refine (HR.out w1 hk1).mono ?_
        rintro e w2 ⟨rfl, hk2⟩
        clear HR
        have hb2 := hk2.blk hb1 (fun h => h)
        clear hb1
        go_wp2_with (first
          | ((with_reducible refine aw_alloc (t := 100) Hip.out Hzp.out ?_); intro w3 hb3 hk3 hz3; have hb4 := hk3.blk hb2 (fun h => h); have c0 : w3.cell? ⟨w.heap.size, 0, none⟩ = some (.int .i64 3) := hb4.cell 0; clear hz3)
          | fail)
        have HPa : Hid (Pn w2 w3 w2.heap.size []) := hide ⟨Nat.le_refl _, hk3, _, pen_new hb3, fun k h => by simp [Value.ownBlock] at h⟩
        have HB2 := hide hb2
        have HKW := hide (hk1.trans hk2 (fun _ _ h => h))
        clear hb3 hk3 hb4 hb2
        refine (number_pn w2 w3 _ [] HPa.out (by simp) _ 1 (by omega)).mono ?_
        rintro e w4 ⟨rfl, hp4⟩
        rw [N1.out] at hp4
        have HP4 := hide hp4
        have c0' : w4.cell? ⟨w.heap.size, 0, none⟩ = some (.int .i64 3) := (HP4.out.base.blk HB2.out (fun h => h)).cell 0
        clear hp4 c0 N1 HPa
        have c1 : w4.cell? ⟨w.heap.size, 1, none⟩ = some (.int .i64 tl) := (HP4.out.base.blk HB2.out (fun h => h)).cell 1
        go_wp2_with fail
        refine (number_pn w2 w4 _ _ HP4.out (by simp [numB_length]) _ 4 (by omega)).mono ?_
        rintro e w5 ⟨rfl, hp5⟩
        rw [N4.out] at hp5
        have HP5 := hide hp5
        have c2 : w5.cell? ⟨w.heap.size, 2, none⟩ = some (.int .i64 nm) := (HP5.out.base.blk HB2.out (fun h => h)).cell 2
        clear hp5 c0' c1 N4 HP4
        go_wp2_with fail
        refine (number_pn w2 w5 _ _ HP5.out (by simp [numB_length]) _ 8 (by omega)).mono ?_
        rintro e w6 ⟨rfl, hp6⟩
        rw [N8.out] at hp6
        have HP6 := hide hp6
        have c0 : w6.cell? ⟨w.heap.size, 0, none⟩ = some (.int .i64 3) := (HP6.out.base.blk HB2.out (fun h => h)).cell 0
        clear hp6 c2 N8 HP5
        have c3 : w6.cell? ⟨w.heap.size, 3, none⟩ = some (.slice xa l.length xc) := (HP6.out.base.blk HB2.out (fun h => h)).cell 3
        go_wp2_with fail
        refine (putWrites_at w2 w6 _ _ _ l HP6.out (by simp [numB_length]) (HW.out.kept HKW.out) HG.out).mono ?_
        rintro e w7 ⟨⟨u, rfl⟩, hp7⟩
        have HP7 := hide hp7
        clear hp7 c0 c3 HP6
        go_wp2_with fail
        refine (bytes_pn w2 w7 _ _ HP7.out HLE.out).mono ?_
        rintro e w8 ⟨t, rfl, hs8, hk8⟩
        obtain ⟨ta, tn, tc, rfl⟩ : ∃ a n c, t = .slice a n c := by
          obtain ⟨a, c, e, _⟩ := hs8
          exact ⟨a, _, c, e⟩
        have HS8 := hide hs8
        have HK8 := hide hk8
        clear hs8 hk8
        go_wp2
        go_ret
        exact ⟨⟨ta, tn, tc⟩, rfl, by rw [HN.out]; exact HS8.out, HKW.out.trans (HP7.out.base.trans HK8.out (fun _ _ h => h)) (fun _ _ h => h)⟩
theorem rcput_at (w : World) (x : Rv) (h : RcAt w x) : Calls Try.prog 46 #[x.agg] w fun e w' => ∃ t : Sl, e = .returned (.slice t.a t.n t.c) ∧ Src w' t.v (putRN x.rc) ∧ Kept (fun _ => False) w w' :=
  rcputP_at w x.kd x.tl x.nm x.s x.ws h
end Go.Proofs.Ytbbhchmdggfncaa


/-
  frame.within, frame.Sectors; Sectors, of package record; great, of the law.
-/
namespace Go.Proofs.Ytbbhchmdggfncaa
open Go.RowKit Go.Shelf
set_option linter.unusedSimpArgs false
set_option linter.unusedVariables false
set_option maxRecDepth 100000

set_option maxRecDepth 100000 in
set_option maxHeartbeats 2000000 in
theorem rsect_at (w : World) (x : Rv) (h : RcAt w x) (B : List Nat) (hB : putRN x.rc = B) (hl : B.length ≤ 10000) (n : Nat) (hn : (if B.length = 0 then 0 else sectN B.length) = n) : Calls Try.prog 47 #[x.agg] w fun e w' => e = .returned (.int .i64 (n : Nat)) ∧ Kept (fun _ => False) w w' := by
  have HP : Hid (∀ w', Kept (fun _ => False) w w' → Calls Try.prog 46 #[x.agg] w' fun e w'' => ∃ t : Sl, e = .returned (.slice t.a t.n t.c) ∧ Src w'' t.v B ∧ Kept (fun _ => False) w' w'') := hide (fun w' hk => by rw [← hB]; exact rcput_at w' x (h.kept hk))
  obtain ⟨kd, tl, nm, ⟨xa, xn, xc⟩, l⟩ := x
  simp only [Rv.agg] at HP ⊢
  have HN := hide hn
  clear hn hB h
  go_enter Try.func47, Try.ntmps47
  go_wp2_with (first
    | ((with_reducible refine aw_box (t := 37) (v := rAgg kd tl nm ⟨xa, xn, xc⟩) rfl ?_); intro w1 hb1 hk1 hz1; have Hz1 := hide hz1; clear hz1)
    | ((with_reducible refine aw_load (t := 37) (M := [.int .i64 kd, .int .i64 tl, .int .i64 nm, .slice xa xn xc]) Try.agg37 rfl hb1 (by simp [Value.cells]) (by simp [Value.cells]) ?_))
    | fail)
  refine (HP.out w1 hk1).mono ?_
  rintro e w2 ⟨⟨ta, tn, tc⟩, rfl, hs2, hk2⟩
  have hk := hk1.trans hk2 (fun _ _ h => h)
  have htn : tn = B.length := by
    obtain ⟨_, _, e, _⟩ := hs2
    simp only [Sl.v, Value.slice.injEq] at e
    exact e.2.1
  rw [← htn] at HN hl
  clear hs2 hk2 hk1 hb1 htn HP
  by_cases h0 : tn = 0
  · subst h0
    obtain rfl : n = 0 := by rw [← HN.out]; rfl
    go_wp2
    go_ret
    exact ⟨rfl, hk⟩
  · have h0' : ¬ (tn : Int) = 0 := by omega
    have hn : n = sectN tn := by rw [← HN.out, if_neg h0]
    clear HN
    have Hn := hide hn
    clear hn
    go_wp2_with fail
    refine (sectors_at w2 tn (by omega)).mono ?_
    rintro e w3 ⟨rfl, rfl⟩
    go_wp2
    go_ret
    exact ⟨by rw [Hn.out]; rfl, hk⟩

end Go.Proofs.Ytbbhchmdggfncaa
