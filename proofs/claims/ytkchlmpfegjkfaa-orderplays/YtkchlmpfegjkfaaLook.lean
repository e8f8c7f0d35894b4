/-
  'look': what an order tells is what the document's list tells.
-/
import Derived.Test.YtkchlmpfegjkfaaLookI
namespace Go.Proofs.Ytkchlmpfegjkfaa
open Go.RowKit Go.Shelf
set_option linter.unusedSimpArgs false
set_option linter.unusedVariables false

theorem look_apart {W : World} {p : Nat} {v : Value} {Bg Bi Bl Bo : Nat} {lv : Value} {l : List EntI} {oc L M : List Value} (hm : MapI W p v l) (hr : LookR W Bl Bo lv l oc) (hg : Blk W Bg M 4) (hi : Blk W Bi L 3) : (∀ k, footM p v k → ¬ (k = Bi ∨ k = Bg)) ∧ ¬ (Bl = Bi ∨ Bl = Bg) ∧ ¬ (Bo = Bi ∨ Bo = Bg) ∧ ∀ k, lv.ownBlock = some k → ¬ (k = Bi ∨ k = Bg) := by
  refine ⟨?_, ?_, ?_, ?_⟩
  · rintro k (hk | hk) (e | e)
    · exact hm.blk.ne hi (by decide) (by rw [← hk, e])
    · exact hm.blk.ne hg (by decide) (by rw [← hk, e])
    · exact ownsRow_blk_ne hm.own hi (by decide) (by rw [hk, e])
    · exact ownsRow_blk_ne hm.own hg (by decide) (by rw [hk, e])
  · rintro (e | e)
    · exact hr.bl.ne hi (by decide) e
    · exact hr.bl.ne hg (by decide) e
  · rintro (e | e)
    · exact hr.bo.ne hi (by decide) e
    · exact hr.bo.ne hg (by decide) e
  · rintro k hk (e | e)
    · exact ownsRow_blk_ne hr.own hi (by decide) (by rw [hk, e])
    · exact ownsRow_blk_ne hr.own hg (by decide) (by rw [hk, e])
/-- The state of 'look' between its steps. -/
structure LookS (w W : World) (p : Nat) (v : Value) (Bg Bi Bl Bo : Nat) (lv : Value) (l : List EntI) (oc : List Value) (i : Nat) : Prop where
  map : MapI W p v l
  rd : LookR W Bl Bo lv l oc
  bg : Blk W Bg [.bool true] 4
  bi : Blk W Bi [.int .i64 (i : Nat)] 3
  kept : Kept (fun _ => False) w W
theorem LookS.step {w W W' : World} {p : Nat} {v : Value} {Bg Bi Bl Bo : Nat} {lv : Value} {l : List EntI} {oc : List Value} {i j : Nat} (h : LookS w W p v Bg Bi Bl Bo lv l oc i) (hk : Kept (fun k => k = Bi ∨ k = Bg) W W') (hg : Blk W' Bg [.bool true] 4) (hi : Blk W' Bi [.int .i64 (j : Nat)] 3) (hBi : w.heap.size ≤ Bi) (hBg : w.heap.size ≤ Bg) : LookS w W' p v Bg Bi Bl Bo lv l oc j := by
  obtain ⟨a1, a2, a3, a4⟩ := look_apart h.map h.rd h.bg h.bi
  exact ⟨h.map.kept hk (a1 p (.inl rfl)) (fun k hk => a1 k (.inr hk)), h.rd.kept hk a2 a3 a4, hg, hi, h.kept.trans hk (fun k hkw e => by
    rcases e with e | e
    · omega
    · omega)⟩
theorem LookS.mem {w W W' : World} {p : Nat} {v : Value} {Bg Bi Bl Bo : Nat} {lv : Value} {l : List EntI} {oc : List Value} {i : Nat} (h : LookS w W p v Bg Bi Bl Bo lv l oc i) (hk : Kept (fun _ => False) W W') : LookS w W' p v Bg Bi Bl Bo lv l oc i :=
  ⟨h.map.kept hk (fun h => h) (fun _ _ h => h), h.rd.kept hk (fun h => h) (fun h => h) (fun _ _ h => h), hk.blk h.bg (fun h => h), hk.blk h.bi (fun h => h), h.kept.trans hk (fun _ _ h => h)⟩
theorem LookS.set {w W : World} {p : Nat} {v : Value} {Bg Bi Bl Bo : Nat} {lv : Value} {l : List EntI} {oc : List Value} {i : Nat} (h : LookS w W p v Bg Bi Bl Bo lv l oc i) (j : Nat) (hBi : w.heap.size ≤ Bi) (hBg : w.heap.size ≤ Bg) : LookS w (W.setCell ⟨Bi, 0, none⟩ (.int .i64 (j : Nat))) p v Bg Bi Bl Bo lv l oc j := by
  have k1 := Kept.setCell (S := fun k => k = Bi) W ⟨Bi, 0, none⟩ (.int .i64 (j : Nat)) rfl
  exact h.step (k1.mono (fun _ _ h => .inl h)) (k1.blk h.bg (h.bg.ne h.bi (by decide))) (h.bi.setCell 0 _) hBi hBg
/-- The number that a box holds. -/
def boxN (W : World) (B : Nat) : Nat := match W.cell? ⟨B, 0, none⟩ with
  | some (.int _ n) => n.toNat
  | _ => 0

theorem boxN_of {W : World} {B n : Nat} (h : Blk W B [.int .i64 (n : Nat)] 3) : boxN W B = n := by
  have c : W.cell? ⟨B, 0, none⟩ = some (.int .i64 (n : Nat)) := h.cell 0
  simp [boxN, c]

theorem Try.info4 : (Try.prog.info? 4).map (fun i => (i.zero, i.size, i.bytes)) = some (some (.bool false), 1, 1) := by kernel_rfl

set_option maxRecDepth 100000 in
set_option maxHeartbeats 8000000 in
theorem look_at (w : World) (p : Nat) (v : Value) (l : List EntI) (lao : Option Addr) (ln lc : Nat) (kd ky stop : Int) (va : ByteArray) (hm : MapI w p v l) (ho : OwnR w (.slice lao ln lc) l) (hl : l.length ≤ 100) (hlv : ln = l.length) :
    Calls Try.prog 12 #[.pointer (some ⟨p, 0, none⟩), .slice lao ln lc, .agg #[.int .i64 kd, .int .i64 ky, .int .i64 stop, .string va]] w fun e w' => e = .returned (.bool true) ∧ Kept (fun _ => False) w w' := by
  subst hlv
  obtain ⟨i3, hi3, hz3, hs3, hb3⟩ := info_parts Try.info39
  have Hi39 := hide hi3
  have Hz39 := hide hz3
  have HM := hide hm
  have HO := hide ho
  clear hi3 hz3 hs3 hb3 hm ho
  go_enter Try.func12, Try.ntmps12
  go_wp2_with (first
    | ((with_reducible refine aw_box (t := 26) (v := .slice lao l.length lc) rfl ?_); intro w1 hb1 hk1 hz1; have Hz1 := hide hz1; clear hz1)
    | ((with_reducible refine aw_box (t := 28) (v := .agg #[.int .i64 kd, .int .i64 ky, .int .i64 stop, .string va]) rfl ?_); intro w2 hb2 hk2 hz2; have Hz2 := hide hz2; clear hz2; have c1 : w2.cell? ⟨w1.heap.size, 1, none⟩ = some (.int .i64 ky) := hb2.cell 1)
    | fail)
  have hk02 := hk1.trans hk2 (fun _ _ h => h)
  have HBl := hide (hk2.blk hb1 (fun h => h))
  have HBo := hide hb2
  have HM2 := hide (HM.out.kept hk02 (fun h => h) (fun _ _ h => h))
  have HO2 := hide (HO.out.kept hk02 (fun _ _ h => h))
  obtain ⟨Bl, hBl⟩ : ∃ Bl, Bl = w.heap.size := ⟨_, rfl⟩
  obtain ⟨Bo, hBo⟩ : ∃ Bo, Bo = w1.heap.size := ⟨_, rfl⟩
  have hBlw : w.heap.size ≤ Bl := by omega
  have hBow : w.heap.size ≤ Bo := by have := hk1.size; omega
  rw [← hBl] at HBl ⊢
  rw [← hBo] at HBo c1 ⊢
  clear hBl hBo hb1 hb2 hk1 hk2 HM HO
  refine (get_atI w2 p v l ky HM2.out (by omega)).mono ?_
  rintro e w3 ⟨rfl, hk3⟩
  have hk03 := hk02.trans hk3 (fun _ _ h => h)
  have hR3 : LookR w3 Bl Bo (.slice lao l.length lc) l [.int .i64 kd, .int .i64 ky, .int .i64 stop, .string va] := ⟨hk3.blk HBl.out (fun h => h), HO2.out.kept hk3 (fun _ _ h => h), hk3.blk HBo.out (fun h => h)⟩
  have HM3 := hide (HM2.out.kept hk3 (fun h => h) (fun _ _ h => h))
  have c2 : w3.cell? ⟨Bl, 0, none⟩ = some (.slice lao l.length lc) := hR3.bl.cell 0
  have c3 : w3.cell? ⟨Bo, 1, none⟩ = some (.int .i64 ky) := hR3.bo.cell 1
  have HR3 := hide hR3
  clear hR3 c1 HBl HBo HM2 HO2 hk3 hk02
  go_wp2_with fail
  refine (rget_at w3 _ l ky HR3.out.own HM3.out.srt (by omega)).mono ?_
  rintro e w4 ⟨rfl, hk4⟩
  have hk04 := hk03.trans hk4 (fun _ _ h => h)
  have HR4 := hide (HR3.out.kept hk4 (fun h => h) (fun h => h) (fun _ _ h => h))
  have HM4 := hide (HM3.out.kept hk4 (fun h => h) (fun _ _ h => h))
  have c4 : w4.cell? ⟨Bo, 1, none⟩ = some (.int .i64 ky) := HR4.out.bo.cell 1
  clear c2 c3 HR3 HM3 hk4 hk03
  go_wp2_with fail
  refine (floor_at w4 p v l ky HM4.out (by omega)).mono ?_
  rintro e w5 ⟨rfl, hk5⟩
  have hk05 := hk04.trans hk5 (fun _ _ h => h)
  have HR5 := hide (HR4.out.kept hk5 (fun h => h) (fun h => h) (fun _ _ h => h))
  have HM5 := hide (HM4.out.kept hk5 (fun h => h) (fun _ _ h => h))
  have c5 : w5.cell? ⟨Bo, 1, none⟩ = some (.int .i64 ky) := HR5.out.bo.cell 1
  have c6 : w5.cell? ⟨Bl, 0, none⟩ = some (.slice lao l.length lc) := HR5.out.bl.cell 0
  clear c4 HR4 HM4 hk5 hk04
  go_wp2_with fail
  refine (rfloor_at w5 _ l ky HR5.out.own HM5.out.srt (by omega)).mono ?_
  rintro e w6 ⟨rfl, hk6⟩
  have hk06 := hk05.trans hk6 (fun _ _ h => h)
  have HR6 := hide (HR5.out.kept hk6 (fun h => h) (fun h => h) (fun _ _ h => h))
  have HM6 := hide (HM5.out.kept hk6 (fun h => h) (fun _ _ h => h))
  clear c5 c6 HR5 HM5 hk6 hk05
  generalize getKI l ky = gv at *
  generalize hasK ltI l ky = gh at *
  generalize floKI (floorI l ky) = fk at *
  generalize floVI (floorI l ky) = fv at *
  generalize (floorI l ky).isSome = fh at *
  go_wp2_with (first
    | ((with_reducible refine aw_alloc Hi39.out Hz39.out ?_); intro w7 hb7 hk7 hz7; have Hz7 := hide hz7; clear hz7)
    | ((with_reducible refine aw_store (M := [.int .i64 fk, .string fv]) Try.agg39 rfl rfl rfl (by simp [Value.oneCell']) hb7 (by simp [Value.cells]) ?_); intro w8 hb8 hk8 hz8; have Hz8 := hide hz8; clear hz8; rw [put_whole _ _ (by simp [Value.cells])] at hb8))
  have hk68 : Kept (fun _ => False) w6 w8 := hk7.trans hk8 (fun i hi h => by omega)
  have hk08 := hk06.trans hk68 (fun _ _ h => h)
  have HR8 := hide (HR6.out.kept hk68 (fun h => h) (fun h => h) (fun _ _ h => h))
  have HM8 := hide (HM6.out.kept hk68 (fun h => h) (fun _ _ h => h))
  have c8 : w8.cell? ⟨w6.heap.size, 0, none⟩ = some (.int .i64 fk) := hb8.cell 0
  have c9 : w8.cell? ⟨w6.heap.size, 1, none⟩ = some (.string fv) := hb8.cell 1
  have c10 : w8.cell? ⟨Bl, 0, none⟩ = some (.slice lao l.length lc) := HR8.out.bl.cell 0
  clear hb7 hk7 hb8 hk8 hk68 HR6 HM6 hk06
  have HLen : Hid (∀ n, Calls Try.prog 17 #[.pointer (some ⟨p, 0, none⟩)] (w8.drewN n) fun e w' => e = .returned (.int .i64 (l.length : Nat)) ∧ w' = w8.drewN n) := hide (fun n => (len_atI (w8.drewN n) p v l (HM8.out.kept ((Kept.refl (fun _ => False) w8).drewN n) (fun h => h) (fun _ _ h => h))).mono (fun e w' ⟨a, b⟩ => ⟨a, b.symm⟩))
  go_quiet ((go_at_call 17; exact Calls.quiet_of_same (HLen.out _)))
  have hk8q : Kept (fun _ => False) w8 (w8.drewN nq) := (Kept.refl _ _).drewN _
  generalize w8.drewN nq = w9 at hk8q
  have hk09 := hk08.trans hk8q (fun _ _ h => h)
  have HR9 := hide (HR8.out.kept hk8q (fun h => h) (fun h => h) (fun _ _ h => h))
  have HM9 := hide (HM8.out.kept hk8q (fun h => h) (fun _ _ h => h))
  clear c8 c9 c10 HLen HR8 HM8 hk08 hk8q
  obtain ⟨i3, hi3, hz3, hs3, hb3⟩ := info_parts Try.info3
  obtain ⟨i4, hi4, hz4, hs4, hb4⟩ := info_parts Try.info4
  have Hi3 := hide hi3
  have Hz3 := hide hz3
  have Hi4 := hide hi4
  have Hz4 := hide hz4
  clear hi3 hz3 hs3 hb3 hi4 hz4 hs4 hb4
  go_wp2_with (with_reducible refine stop_alloc 3 ?_)
  refine hide ?_
  refine aw_alloc (t := 3) Hi3.out Hz3.out ?_
  intro w10 hb10 hk10 hz10
  refine aw_alloc (t := 4) Hi4.out Hz4.out ?_
  intro w11 hb11 hk11 hz11
  obtain ⟨Bi, hBi⟩ : ∃ Bi, Bi = w9.heap.size := ⟨_, rfl⟩
  obtain ⟨Bg, hBg⟩ : ∃ Bg, Bg = w10.heap.size := ⟨_, rfl⟩
  have hBiw : w.heap.size ≤ Bi := by have := hk09.size; omega
  have hBgw : w.heap.size ≤ Bg := by have := hk09.size; omega
  have hig : Bi ≠ Bg := by omega
  have hgi : Bg ≠ Bi := by omega
  rw [← hBi, ← hBg]
  rw [← hBi] at hb10
  rw [← hBg] at hb11
  have hk911 := hk10.trans hk11 (fun _ _ h => h)
  have hbi : Blk w11 Bi [.int .i64 0] 3 := hk11.blk hb10 (fun h => h)
  have hbg : Blk w11 Bg [.bool false] 4 := hb11
  have hk011 := hk09.trans hk911 (fun _ _ h => h)
  have HR11 := hide (HR9.out.kept hk911 (fun h => h) (fun h => h) (fun _ _ h => h))
  have HM11 := hide (HM9.out.kept hk911 (fun h => h) (fun _ _ h => h))
  clear hBi hBg hz10 hz11 hb10 hb11 hk10 hk11 hk911 HR9 HM9 hk09 Hz2 Hz7 Hz8
  try simp only [put_lit, List.set_cons_succ, List.set_cons_zero]
  have c11 : w11.cell? ⟨Bg, 0, none⟩ = some (.bool false) := hbg.cell 0
  have f11 : w11.frozen? ⟨Bg, 0, none⟩ = false := hbg.frozen 0
  have c12 : w11.cell? ⟨Bi, 0, none⟩ = some (.int .i64 0) := hbi.cell 0
  have f12 : w11.frozen? ⟨Bi, 0, none⟩ = false := hbi.frozen 0
  have hset : ∀ w', w' = (w11.setCell ⟨Bi, 0, none⟩ (.int .i64 0)).setCell ⟨Bg, 0, none⟩ (.bool true) → Blk w' Bg [.bool true] 4 ∧ Blk w' Bi [.int .i64 (0 : Nat)] 3 ∧ Kept (fun k => k = Bi ∨ k = Bg) w11 w' := by
    rintro w' rfl
    have k1 := Kept.setCell (S := fun k => k = Bi) w11 ⟨Bi, 0, none⟩ (.int .i64 0) rfl
    have k2 := Kept.setCell (S := fun k => k = Bg) (w11.setCell ⟨Bi, 0, none⟩ (.int .i64 0)) ⟨Bg, 0, none⟩ (.bool true) rfl
    exact ⟨(k1.blk hbg hgi).setCell 0 (.bool true), k2.blk (hbi.setCell 0 (.int .i64 0)) hig, (k1.mono (fun _ _ h => .inl h)).trans k2 (fun _ _ h => .inr h)⟩
  have HSet := hide hset
  have HBi := hide hbi
  have HBg := hide hbg
  clear hset hbi hbg
  go_wp2_with fail
  obtain ⟨hg12, hi12, hk12⟩ := HSet.out _ rfl
  generalize (w11.setCell ⟨Bi, 0, none⟩ (.int .i64 0)).setCell ⟨Bg, 0, none⟩ (.bool true) = w12 at hg12 hi12 hk12 ⊢
  have hS12 : LookS w w12 p v Bg Bi Bl Bo (.slice lao l.length lc) l [.int .i64 kd, .int .i64 ky, .int .i64 stop, .string va] 0 := by
    obtain ⟨a1, a2, a3, a4⟩ := look_apart HM11.out HR11.out HBg.out HBi.out
    exact ⟨HM11.out.kept hk12 (a1 p (.inl rfl)) (fun k hk => a1 k (.inr hk)), HR11.out.kept hk12 a2 a3 a4, hg12, hi12, hk011.trans hk12 (fun k hkw e => by
      rcases e with e | e
      · omega
      · omega)⟩
  clear HSet HBi HBg HM11 HR11 hk011 hg12 hi12 hk12 c11 f11 c12 f12
  refine (all_atI w12 (some ⟨p, 0, none⟩)).mono ?_
  rintro e w13 ⟨rfl, hw13⟩
  have hk13 : Kept (fun _ => False) w12 w13 := by rw [hw13]; exact Kept.alloc _ _ _
  have hbm : Blk w13 w12.heap.size [.pointer (some ⟨p, 0, none⟩)] 24 := by rw [hw13]; exact Blk.newA w12 _ _
  have HS13 := hide (hS12.mem hk13)
  have HA := hide (look_all w13 p v Bg Bi Bl Bo w12.heap.size (.slice lao l.length lc) l kd ky stop va ⟨HS13.out.map, HS13.out.rd, HS13.out.bg, by omega⟩ HS13.out.bi hbm)
  clear hS12 hw13 hk13 hbm
  go_wp2_with fail
  refine HA.out.mono ?_
  rintro e w14 ⟨⟨u14, rfl⟩, i, hg14, hi14, hk14, hil, hic⟩
  have hS14 := HS13.out.step hk14 hg14 hi14 hBiw hBgw
  have HS14 := hide hS14
  have c0 : w14.cell? ⟨Bg, 0, none⟩ = some (.bool true) := hg14.cell 0
  have c1 : w14.cell? ⟨Bi, 0, none⟩ = some (.int .i64 (i : Nat)) := hi14.cell 0
  have f1 : w14.frozen? ⟨Bi, 0, none⟩ = false := hi14.frozen 0
  have c2 : w14.cell? ⟨Bl, 0, none⟩ = some (.slice lao l.length lc) := hS14.rd.bl.cell 0
  have c3 : w14.cell? ⟨Bo, 2, none⟩ = some (.int .i64 stop) := hS14.rd.bo.cell 2
  clear HA HS13 hg14 hi14 hk14 hS14
  have hcond : ((i : Int) != (l.length : Int)) = false ∨ (((i : Int) != (l.length : Int)) = true ∧ ((i : Int) != stop) = false) := by
    by_cases e : i = l.length
    · exact .inl (by simp [e])
    · refine .inr ⟨by simp; omega, ?_⟩
      rcases hic with h | h
      · exact absurd h e
      · simp [h]
  clear hic
  rcases hcond with hc1 | ⟨hc1, hc2⟩
  all_goals
    go_wp2_with fail
    have hS15 := HS14.out.set l.length hBiw hBgw
    generalize w14.setCell ⟨Bi, 0, none⟩ (.int .i64 (l.length : Nat)) = w15 at hS15 ⊢
    clear HS14 c0 c1 f1 c2 c3
    refine (down_at w15 (some ⟨p, 0, none⟩)).mono ?_
    rintro e w16 ⟨rfl, hw16⟩
    have hk16 : Kept (fun _ => False) w15 w16 := by rw [hw16]; exact Kept.alloc _ _ _
    have hbm : Blk w16 w15.heap.size [.pointer (some ⟨p, 0, none⟩)] 24 := by rw [hw16]; exact Blk.newA w15 _ _
    have HS16 := hide (hS15.mem hk16)
    have HA := hide (look_down w16 p v Bg Bi Bl Bo w15.heap.size (.slice lao l.length lc) l kd ky stop va ⟨HS16.out.map, HS16.out.rd, HS16.out.bg, by omega⟩ HS16.out.bi hbm)
    clear hS15 hw16 hk16 hbm
    go_wp2_with fail
    refine HA.out.mono ?_
    rintro e w17 ⟨⟨u17, rfl⟩, j, hg17, hi17, hk17, hjl, hjc⟩
    have hS17 := HS16.out.step hk17 hg17 hi17 hBiw hBgw
    have HS17 := hide hS17
    have c0 : w17.cell? ⟨Bg, 0, none⟩ = some (.bool true) := hg17.cell 0
    have c1 : w17.cell? ⟨Bi, 0, none⟩ = some (.int .i64 (j : Nat)) := hi17.cell 0
    have f1 : w17.frozen? ⟨Bi, 0, none⟩ = false := hi17.frozen 0
    have c2 : w17.cell? ⟨Bl, 0, none⟩ = some (.slice lao l.length lc) := hS17.rd.bl.cell 0
    have c3 : w17.cell? ⟨Bo, 2, none⟩ = some (.int .i64 stop) := hS17.rd.bo.cell 2
    clear HA HS16 hg17 hi17 hk17 hS17
    have hcond : ((j : Int) != 0) = false ∨ (((j : Int) != 0) = true ∧ (((l.length : Int) - (j : Int)) != stop) = false) := by
      by_cases e : j = 0
      · exact .inl (by simp [e])
      · refine .inr ⟨by simp; omega, ?_⟩
        rcases hjc with h | h
        · exact absurd h e
        · rw [show (l.length : Int) - (j : Int) = ((l.length - j : Nat) : Int) by omega, h]; simp
    clear hjc
    rcases hcond with hd1 | ⟨hd1, hd2⟩
    all_goals
      go_wp2
      have hS18 := HS17.out.set 0 hBiw hBgw
      have HS18 : Hid (LookS w (w17.setCell ⟨Bi, 0, none⟩ (.int .i64 0)) p v Bg Bi Bl Bo (.slice lao l.length lc) l [.int .i64 kd, .int .i64 ky, .int .i64 stop, .string va] 0) := hide hS18
      clear hS18 HS17 c0 c1 f1 c2 c3
      generalize w17.setCell ⟨Bi, 0, none⟩ (.int .i64 0) = w18 at HS18 ⊢
      go_loopw [119] (fun u wr => ∃ (q : Nat), q ≤ posK ltI l ky ∧ u = u ∧ Hid (LookS w wr p v Bg Bi Bl Bo (.slice lao l.length lc) l [.int .i64 kd, .int .i64 ky, .int .i64 stop, .string va] q)) (fun _ wr => l.length - boxN wr Bi)
      case atStart => exact ⟨0, Nat.zero_le _, rfl, HS18⟩
      case round =>
        obtain ⟨q, hq, _, hSr⟩ := hrel
        clear HS18
        have hpl := posK_le ltI l ky
        have c1 : wr.cell? ⟨Bi, 0, none⟩ = some (.int .i64 (q : Nat)) := hSr.out.bi.cell 0
        have f1 : wr.frozen? ⟨Bi, 0, none⟩ = false := hSr.out.bi.frozen 0
        have c2 : wr.cell? ⟨Bl, 0, none⟩ = some (.slice lao l.length lc) := hSr.out.rd.bl.cell 0
        have c3 : wr.cell? ⟨Bo, 1, none⟩ = some (.int .i64 ky) := hSr.out.rd.bo.cell 1
        by_cases hqp : q < posK ltI l ky
        · have hql : q < l.length := by omega
          have hqi : (q : Int) < (l.length : Int) := by omega
          have hky := key_lt (l := l) (k := ky) hql hqp
          obtain ⟨g, rfl, hcc⟩ : ∃ g, lao = some ⟨g, 0, none⟩ ∧ wr.cell? ⟨g, q * 2, none⟩ = some (.int .i64 l[q].1) := by
            rcases ownsRow_blk hSr.out.rd.own with ⟨_, h0, _⟩ | ⟨g, cap, C, he, hb, _⟩
            · omega
            · cases he
              exact ⟨g, rfl, by rw [hb.cell, List.getElem?_append_left (by rw [encE_length]; omega), encE_key l q hql]⟩
          generalize l[q].1 = lk at hky hcc
          go_wp2
          go_quiet (fail)
          have hkq : Kept (fun _ => False) wr (wr.drewN nq) := (Kept.refl _ _).drewN _
          have hSq := hSr.out.mem hkq
          generalize wr.drewN nq = wq at hkq hSq ⊢
          have e1 : wq.cell? ⟨Bi, 0, none⟩ = some (.int .i64 (q : Nat)) := hSq.bi.cell 0
          have e2 : wq.frozen? ⟨Bi, 0, none⟩ = false := hSq.bi.frozen 0
          have HSq := hide hSq
          have Hm : Hid (boxN wr Bi = q) := hide (boxN_of hSr.out.bi)
          clear c1 f1 c2 c3 hcc hSq
          go_wp2
          have hSn := HSq.out.set (q + 1) hBiw hBgw
          have hSn' : LookS w (wq.setCell ⟨Bi, 0, none⟩ (.int .i64 ((q : Int) + 1))) p v Bg Bi Bl Bo (.slice (some ⟨g, 0, none⟩) l.length lc) l [.int .i64 kd, .int .i64 ky, .int .i64 stop, .string va] (q + 1) := by simpa using hSn
          go_roundw
          case rel => exact ⟨q + 1, by omega, trivial, hide hSn'⟩
          case measure =>
            rw [Hm.out, boxN_of hSn'.bi]
            omega
        · obtain rfl : q = posK ltI l ky := by omega
          have hPos : ∃ P, P = posK ltI l ky := ⟨_, rfl⟩
          obtain ⟨P, hP⟩ := hPos
          rw [← hP] at c1 hpl
          have HP := hide hP
          have hcase : P = l.length ∨ (P < l.length ∧ ∃ g lk, lao = some ⟨g, 0, none⟩ ∧ wr.cell? ⟨g, P * 2, none⟩ = some (.int .i64 lk) ∧ ¬ lk < ky) := by
            by_cases e : P = l.length
            · exact .inl e
            · have hql : P < l.length := by omega
              refine .inr ⟨hql, ?_⟩
              rcases ownsRow_blk hSr.out.rd.own with ⟨_, h0, _⟩ | ⟨g, cap, C, he, hb, _⟩
              · omega
              · cases he
                refine ⟨g, l[P].1, rfl, by rw [hb.cell, List.getElem?_append_left (by rw [encE_length]; omega), encE_key l P hql], ?_⟩
                have := key_ge hSr.out.map.srt (k := ky) hql (by omega)
                omega
          have hSP : LookS w wr p v Bg Bi Bl Bo (.slice lao l.length lc) l [.int .i64 kd, .int .i64 ky, .int .i64 stop, .string va] P := by rw [hP]; exact hSr.out
          have HSP := hide hSP
          clear hP hSr hq hqp hSP
          have htest : Hid (∀ (R : Prop), (∀ (_ : decide (P < l.length) = false) (_ : decide ((P : Int) < (l.length : Int)) = false), R) → (∀ g lk (_ : (P : Int) < (l.length : Int)) (_ : P < l.length) (_ : lao = some ⟨g, 0, none⟩) (_ : wr.cell? ⟨g, P * 2, none⟩ = some (.int .i64 lk)) (_ : ¬ lk < ky), R) → R) := hide (fun R h1 h2 => by
            rcases hcase with e | ⟨hql, g, lk, e1, e2, e3⟩
            · exact h1 (decide_eq_false (by omega)) (decide_eq_false (by omega))
            · exact h2 g lk (by omega) hql e1 e2 e3)
          clear hcase
          refine htest.out _ (fun ht ht2 => ?_) (fun g lk ht hql e1 e2 e3 => ?_)
          all_goals
            try subst e1
            clear htest
            go_wp2
            go_quiet (fail)
            have hkq : Kept (fun _ => False) wr (wr.drewN nq) := (Kept.refl _ _).drewN _
            have hSq := HSP.out.mem hkq
            generalize wr.drewN nq = wq at hkq hSq ⊢
            have HSq := hide hSq
            clear c1 f1 c2 c3 hSq HSP hkq
            try clear e2
            go_wp2_with (with_reducible refine stop_alloc 3 ?_)
            refine hide ?_
            refine aw_alloc (t := 3) Hi3.out Hz3.out ?_
            intro w20 hb20 hk20 hz20
            have hS20 := HSq.out.mem hk20
            obtain ⟨Bn, hBn⟩ : ∃ Bn, Bn = wq.heap.size := ⟨_, rfl⟩
            have hBnw : w.heap.size ≤ Bn := by have := HSq.out.kept.size; omega
            have hin : Bi ≠ Bn := by have := HSq.out.bi.lt; omega
            rw [← hBn] at hb20 ⊢
            have hks := Kept.setCell (S := fun k => k = Bn) w20 ⟨Bn, 0, none⟩ (.int .i64 0) rfl
            have hbn : Blk (w20.setCell ⟨Bn, 0, none⟩ (.int .i64 0)) Bn [.int .i64 (0 : Nat)] 3 := hb20.setCell 0 _
            have hkw : Kept (fun _ => False) wq (w20.setCell ⟨Bn, 0, none⟩ (.int .i64 0)) := hk20.trans hks (fun i hi h => by omega)
            have hS21 := HSq.out.mem hkw
            have g1 : w20.cell? ⟨Bn, 0, none⟩ = some (.int .i64 0) := hb20.cell 0
            have g2 : w20.frozen? ⟨Bn, 0, none⟩ = false := hb20.frozen 0
            have HS21 := hide hS21
            have HBn := hide hbn
            have hg3 : (w20.setCell ⟨Bn, 0, none⟩ (.int .i64 0)).cell? ⟨Bo, 1, none⟩ = some (.int .i64 ky) := hS21.rd.bo.cell 1
            clear hb20 hz20 hS20 hks hbn hS21 hk20 HSq hBn hkw
            try simp only [put_lit, List.set_cons_succ, List.set_cons_zero]
            go_wp2_with fail
            generalize w20.setCell ⟨Bn, 0, none⟩ (.int .i64 0) = w21 at HS21 HBn hg3 ⊢
            clear g1 g2 hg3
            refine (from_at w21 (some ⟨p, 0, none⟩) ky).mono ?_
            rintro e w22 ⟨rfl, hw22⟩
            have hk22 : Kept (fun _ => False) w21 w22 := by rw [hw22]; exact (Kept.alloc _ w21 _).trans (Kept.alloc (fun _ => False) _ _) (fun _ _ h => h)
            have hbm : Blk w22 w21.heap.size [.pointer (some ⟨p, 0, none⟩)] 24 := by
              rw [hw22]
              exact (Kept.alloc (fun _ => False) _ _).blk (Blk.newA w21 _ _) (fun h => h)
            have hbk : Blk w22 (w21.heap.size + 1) [.int .i64 ky] 3 := by
              rw [hw22]
              have := Blk.newA (w21.alloc (.cells #[.pointer (some ⟨p, 0, none⟩)] 24)) #[.int .i64 ky] 3
              simpa using this
            have hS22 := HS21.out.mem hk22
            have hbn22 := hk22.blk HBn.out (fun h => h)
            have HA := hide (look_from w22 p v Bg Bi Bl Bo w21.heap.size (w21.heap.size + 1) Bn _ l kd ky stop va ⟨hS22.map, hS22.rd, hS22.bg, by omega⟩ (by rw [← HP.out]; exact hS22.bi) hbn22 hin hbm hbk)
            have HS22 := hide hS22
            have HBn22 := hide hbn22
            clear hw22 hk22 hbm hbk hS22 HS21 HBn hbn22
            go_wp2_with fail
            refine HA.out.mono ?_
            rintro e w23 ⟨⟨u23, rfl⟩, i2, n2, hg23, hi23, hn23, hk23, hil2, hic2⟩
            have hk023 : Kept (fun _ => False) w w23 := HS22.out.kept.trans hk23 (fun k hk e => by
              rcases e with e | e | e <;> omega)
            obtain ⟨a1, a2, a3, a4⟩ := look_apart HS22.out.map HS22.out.rd HS22.out.bg HS22.out.bi
            obtain ⟨b1, b2, b3, b4⟩ := look_apart HS22.out.map HS22.out.rd HS22.out.bg HBn22.out
            have h0 : w23.cell? ⟨Bg, 0, none⟩ = some (.bool true) := hg23.cell 0
            have h1 : w23.cell? ⟨Bi, 0, none⟩ = some (.int .i64 (i2 : Nat)) := hi23.cell 0
            have h2 : w23.cell? ⟨Bn, 0, none⟩ = some (.int .i64 (n2 : Nat)) := hn23.cell 0
            have h3 := (hk23.blk HS22.out.rd.bl (fun e => by
              rcases e with e | e | e
              · exact a2 (.inl e)
              · exact a2 (.inr e)
              · exact b2 (.inl e))).cell 0
            have h4 := (hk23.blk HS22.out.rd.bo (fun e => by
              rcases e with e | e | e
              · exact a3 (.inl e)
              · exact a3 (.inr e)
              · exact b3 (.inl e))).cell 2
            simp only [List.getElem?_cons_zero, List.getElem?_cons_succ] at h3 h4
            clear HA HS22 HBn22 hg23 hi23 hn23 hk23 a1 a2 a3 a4 b1 b2 b3 b4
            have hcond : ((i2 : Int) == (l.length : Int)) = true ∨ (((i2 : Int) == (l.length : Int)) = false ∧ ((n2 : Int) == stop) = true) := by
              by_cases e : i2 = l.length
              · exact .inl (by simp [e])
              · refine .inr ⟨by simp; omega, ?_⟩
                rcases hic2 with h | h
                · exact absurd h e
                · simp [h]
            clear hic2
            rcases hcond with hh1 | ⟨hh1, hh2⟩
            all_goals
              go_wp2
              go_ret
              exact ⟨rfl, hk023⟩

end Go.Proofs.Ytkchlmpfegjkfaa
