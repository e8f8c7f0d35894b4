/-
  New and Get of a pool.
-/
import Derived.Test.YtakpkibjpjcgbaaPoPut
namespace Go.Proofs.Ytakpkibjpjcgbaa
open Go.RowKit Go.Shelf
set_option linter.unusedSimpArgs false
set_option linter.unusedVariables false
set_option maxRecDepth 100000

/-- Bytes of values. -/
def NV (L : List Value) : List Nat := L.map fun v => match v with | .int _ i => i.toNat | _ => 0
theorem NV_len (L : List Value) : (NV L).length = L.length := by simp [NV]
theorem BV_NV {L : List Value} (h : ∀ v ∈ L, D.isByte v) : BV (NV L) = L := by
  induction L with
  | nil => rfl
  | cons v L ih =>
    obtain ⟨n, rfl, h0, h1⟩ := h v (by simp)
    have := ih (fun u hu => h u (by simp [hu]))
    simp only [BV, NV, List.map_cons] at this ⊢
    rw [this]
    congr 2
    exact Int.toNat_of_nonneg h0
theorem NV_lt {L : List Value} (h : ∀ v ∈ L, D.isByte v) : ∀ x ∈ NV L, x < 256 := by
  intro x hx
  simp only [NV, List.mem_map] at hx
  obtain ⟨v, hv, rfl⟩ := hx
  obtain ⟨n, rfl, h0, h1⟩ := h v hv
  show n.toNat < 256
  omega
theorem NV_BV (B : List Nat) : NV (BV B) = B := by
  simp only [NV, BV, List.map_map]
  have : ((fun v : Value => match v with | .int _ i => i.toNat | _ => 0) ∘ fun n : Nat => Value.int .u8 (n : Int)) = id := by
    funext n
    simp
  rw [this, List.map_id]
theorem src_blk {w : World} {g : Nat} {t : TypeId} {L : List Value} (h : Blk w g L t) (hb : ∀ v ∈ L, D.isByte v) (n : Nat) (hn : n = L.length) : Src w (.slice (some ⟨g, 0, none⟩) n n) (NV L) := by
  subst hn
  refine ⟨_, L.length, by rw [NV_len], by rw [NV_len]; exact Nat.le_refl _, NV_lt hb, fun _ => ⟨g, 0, rfl, ?_⟩, fun h => by cases h⟩
  have := h.cells 0 L.length
  rw [List.drop_zero, List.take_length] at this
  rw [BV_NV hb]
  exact this
theorem D.DevAt.view {w : World} {b n : Nat} {s : D.DS} {F : Nat → Prop} (h : D.DevAt w b n s F) : s.view.length = 64 * n ∧ ∀ v ∈ s.view, D.isByte v := by
  obtain ⟨bs, wv, hd, hf⟩ := h
  exact D.laidTo_ok _ n s.ws s.st hd.ok hd.hl hd.hB _ (Nat.le_refl _)
theorem part_byte {L : List Value} (h : ∀ v ∈ L, D.isByte v) (a m : Nat) : ∀ v ∈ D.part L a m, D.isByte v := fun v hv => h v (List.mem_of_mem_drop (List.mem_of_mem_take hv))
/-- A device and a pool over it. -/
structure PDv (w : World) (db nd : Nat) (s : D.DS) (b : Nat) (l : PL) (F X : NSet) : Prop where
  dev : D.DevAt w db nd s F
  pool : PoolAt w b db l X
  ap : ∀ k, X k → ¬ F k
  fit : l.fr + l.n ≤ nd
theorem PDv.kept {w w' : World} {db nd : Nat} {s : D.DS} {b : Nat} {l : PL} {F X : NSet} (h : PDv w db nd s b l F X) (hk : Kept (fun _ => False) w w') : PDv w' db nd s b l F X :=
  ⟨h.dev.kept hk (fun _ _ h => h), h.pool.kept hk (fun _ _ h => h), h.ap, h.fit⟩
/-- What Get tells. -/
def PL.getE (l : PL) (s : D.DS) (m : Nat) : Int := match getP l.hand m with | some _ => 0 | none => if s.off then 10 else 0
def PL.getV (l : PL) (s : D.DS) (m : Nat) : List Nat := match getP l.hand m with | some x => x.B | none => if s.off then [] else NV (D.part s.view (l.fr + m) 1)
section
variable {ρ : Operand → Value} {w : World} {dst : Option Tmp} {ty : TypeId} {pos : String} {aft : Array Edge} {gd : Option (Nat × Bool)} {x y z : Operand}
theorem r_fP0 {b : Nat} (hx : ρ x = .pointer (some ⟨b, 0, none⟩)) : (execOp ρ ⟨dst, .fieldAddr 76 x 0, ty, pos, aft, gd⟩).run Try.prog w = .ok (.value (.pointer (some ⟨b, 0, none⟩))) w := by
  go_simp
theorem r_fP1 {b : Nat} (hx : ρ x = .pointer (some ⟨b, 0, none⟩)) : (execOp ρ ⟨dst, .fieldAddr 76 x 1, ty, pos, aft, gd⟩).run Try.prog w = .ok (.value (.pointer (some ⟨b, 1, none⟩))) w := by
  go_simp
theorem r_ldP24 {p : Addr} {v : Value} (hx : ρ x = .pointer (some p)) (hc : w.cell? p = some v) : (execOp ρ ⟨dst, .load 24 x, ty, pos, aft, gd⟩).run Try.prog w = .ok (.value v) w := by
  go_simp
theorem r_ldP28 {p : Addr} {v : Value} (hx : ρ x = .pointer (some p)) (hc : w.cell? p = some v) : (execOp ρ ⟨dst, .load 28 x, ty, pos, aft, gd⟩).run Try.prog w = .ok (.value v) w := by
  go_simp
theorem r_ldP3 {p : Addr} {v : Value} (hx : ρ x = .pointer (some p)) (hc : w.cell? p = some v) : (execOp ρ ⟨dst, .load 3 x, ty, pos, aft, gd⟩).run Try.prog w = .ok (.value v) w := by
  go_simp
theorem r_addP {i j : Nat} (hx : ρ x = .int .i64 i) (hy : ρ y = .int .i64 j) (h : i + j ≤ 9223372036854775807) : (execOp ρ ⟨dst, .binOp .add 3 x y 3, ty, pos, aft, gd⟩).run Try.prog w = .ok (.value (.int .i64 ((i + j : Nat) : Int))) w := by
  have hw : IntKind.i64.wrap ((i : Int) + (j : Int)) = ((i + j : Nat) : Int) := by rw [IntKind.wrap_i64]; omega
  go_simp
theorem r_extP {n : Nat} {vs : Array Value} {v : Value} (hx : ρ x = .tuple vs) (h : vs[n]? = some v) : (execOp ρ ⟨dst, .extract x n, ty, pos, aft, gd⟩).run Try.prog w = .ok (.value v) w := by
  simp [execOp, hx, Instr.extract, h]
end
/-- Read of one sector. -/
theorem dread1_at (w : World) (db nd : Nat) (s : D.DS) (F : NSet) (h : D.DevAt w db nd s F) (a : Nat) (ha : a + 1 ≤ nd) :
    Calls Try.prog 30 #[.pointer (some ⟨db, 0, none⟩), .int .i64 (a : Nat), .int .i64 1] w fun e w' => ∃ sl : Sl, e = .returned (.tuple #[.slice sl.a sl.n sl.c, .int .i64 (if s.off then 10 else 0)]) ∧ Src w' sl.v (if s.off then [] else NV (D.part s.view a 1)) ∧ Kept (fun _ => False) w w' := by
  cases ho : s.off with
  | true =>
    refine (D.read_off w db nd s F h a 1 ho).mono ?_
    rintro e w' ⟨rfl, rfl⟩
    exact ⟨⟨none, 0, 0⟩, by simp, by simpa using Src.nil _, Kept.refl _ _⟩
  | false =>
    refine (D.read_ok w db nd s F h a 1 ho ha).mono ?_
    rintro e w' ⟨g, rfl, hb, hk, hg⟩
    refine ⟨⟨some ⟨g, 0, none⟩, 64, 64⟩, by simp, ?_, hk⟩
    have := src_blk hb (part_byte h.view.2 _ _) 64 (D.part_length _ nd _ 1 h.view.1 ha).symm
    simpa using this
theorem poolget_nil (w : World) (k : Int) : Calls Try.prog 11 #[.pointer none, .int .i64 k] w fun e w' => e = .returned (.tuple #[.slice none 0 0, .int .i64 1]) ∧ w = w' := by
  go_enter Try.func11, Try.ntmps11
  go_wp2
  go_ret2
  exact ⟨rfl, rfl⟩
theorem poolget_no (w : World) (b db : Nat) (l : PL) (X : NSet) (h : PoolAt w b db l X) (k : Int) (hk : ¬ (0 ≤ k ∧ k < l.n)) : Calls Try.prog 11 #[.pointer (some ⟨b, 0, none⟩), .int .i64 k] w fun e w' => e = .returned (.tuple #[.slice none 0 0, .int .i64 41]) ∧ w = w' := by
  obtain ⟨ph, vh, pd, vd, h, hx⟩ := h
  have HH := hide (poolhas_at w b _ _ _ _ l.n h.blk k false (by simpa using hk))
  clear h hx hk
  go_enter Try.func11, Try.ntmps11
  go_wp2_with (go_at_call 28; refine HH.out.mono ?_; rintro e w1 ⟨rfl, rfl⟩)
  go_ret2
  exact ⟨rfl, rfl⟩
set_option maxHeartbeats 2000000 in
theorem poolget_at (w : World) (db nd : Nat) (s : D.DS) (b : Nat) (l : PL) (F X : NSet) (h : PDv w db nd s b l F X) (m : Nat) (hm : m < l.n) (hl : l.hand.length ≤ 1000000) :
    Calls Try.prog 11 #[.pointer (some ⟨b, 0, none⟩), .int .i64 m] w fun e w' => ∃ sl : Sl, e = .returned (.tuple #[.slice sl.a sl.n sl.c, .int .i64 (l.getE s m)]) ∧ Src w' sl.v (l.getV s m) ∧ Kept (fun _ => False) w w' := by
  obtain ⟨ph, vh, pd, vd, hp, hx⟩ := h.pool
  have hn2 : nd ≤ 4096 := by obtain ⟨bs, wv, hd, _⟩ := h.dev; exact hd.n2
  have HH := hide (poolhas_at w b _ _ _ _ l.n hp.blk m true (by simp; omega))
  have HP := hide hp
  have HD := hide h.dev
  have hfit := h.fit
  obtain ⟨i0, hi0, hz0, hs0, hb0⟩ := info_parts Try.info79
  have Hi0 := hide hi0
  have Hz0 := hide hz0
  have c3 : w.cell? ⟨b, 3, none⟩ = some (.pointer (some ⟨ph, 0, none⟩)) := hp.blk.cell 3
  have HX := hide hx
  clear h hp hi0 hz0 hs0 hb0 hx
  unfold PL.getE PL.getV
  cases hg : getP l.hand (m : Int) with
  | some x =>
    have HG := hide (get_someP w ph vh l.hand m x HP.out.hm hl hg)
    have hx1 := BV_one x.B
    have hxl := BVk_length x
    obtain ⟨M, hM⟩ : ∃ M, M = BV x.B := ⟨_, rfl⟩
    rw [← hM] at HG hx1 hxl
    have HXL := hide hxl
    have HX1 := hide hx1
    have HM := hide hM
    clear hg hM hx1 hxl
    go_enter Try.func11, Try.ntmps11
    go_wp2_with (first
      | (go_at_call 28; refine HH.out.mono ?_; rintro e w1 ⟨rfl, rfl⟩)
      | (go_at_call 29; refine HG.out.mono ?_; rintro e w1 ⟨rfl, hk1⟩; have HK1 := hide hk1; clear hk1 c3)
      | ((with_reducible refine aw_alloc (t := 79) Hi0.out Hz0.out ?_); intro w2 hb2 hk2 hz2; have HB2 := hide hb2; have HK2 := hide (HK1.out.trans hk2 (fun _ _ h => h)); clear hb2 hk2 hz2)
      | ((with_reducible refine aw_store (M := M) Try.agg79 rfl rfl HXL.out HX1.out HB2.out (by rw [zc79]; omega) ?_); intro w3 hw3 hk3 hz3; have HW3 := hide hw3; rw [put_whole _ _ (by rw [zc79, HXL.out])] at HW3; have HK3 := hide hk3; clear hw3 hk3 hz3)
      | (with_reducible refine stop_slice 79 ?_))
    refine hide ?_
    refine wpList_run rfl (run_slice79 rfl) ?_
    simp only [put_lit, put_none, List.set_cons_succ, List.set_cons_zero]
    go_wp2
    go_ret2
    refine ⟨⟨some ⟨w1.heap.size, 0, none⟩, 64, 64⟩, rfl, ?_, HK2.out.trans HK3.out (fun j hj h => by have := HK1.out.size; omega)⟩
    have h := HW3.out
    rw [HM.out] at h
    have hsr := src_blk h (BV_isByte x.lt) 64 (BVk_length x).symm
    rw [NV_BV] at hsr
    exact hsr
  | none =>
    have HG := hide (get_noneP w ph vh l.hand m HP.out.hm hl hg)
    obtain ⟨M, hM⟩ : ∃ M, M = List.replicate 64 (Value.int .u8 0) := ⟨_, rfl⟩
    rw [← hM] at HG
    have HXL : Hid (M.length = 64) := hide (by rw [hM]; rfl)
    have HX1 : Hid (∀ u ∈ M, u.oneCell' = true) := hide (by rw [hM]; intro u hu; rw [List.eq_of_mem_replicate hu]; rfl)
    clear hg hM
    obtain ⟨ec, hec⟩ : ∃ ec : Int, ec = if s.off then 10 else 0 := ⟨_, rfl⟩
    have HRD := hide (fun (w' : World) (hk : Kept (fun _ => False) w w') => dread1_at w' db nd s F (HD.out.kept hk (fun _ _ h => h)) (l.fr + m) (by omega))
    have hif : (if s.off = true then (10 : Int) else 0) = ec := hec.symm
    obtain ⟨Bv, hBv⟩ : ∃ Bv, Bv = if s.off then [] else NV (D.part s.view (l.fr + m) 1) := ⟨_, rfl⟩
    have hib : (if s.off = true then [] else NV (D.part s.view (l.fr + m) 1)) = Bv := hBv.symm
    simp only [hif, hib] at HRD ⊢
    clear hec hif hBv hib
    go_enter Try.func11, Try.ntmps11
    go_wp2_with (first
      | (go_at_call 28; refine HH.out.mono ?_; rintro e w1 ⟨rfl, rfl⟩)
      | (go_at_call 29; refine HG.out.mono ?_; rintro e w1 ⟨rfl, hk1⟩; have HK1 := hide hk1; clear hk1 c3)
      | ((with_reducible refine aw_alloc (t := 79) Hi0.out Hz0.out ?_); intro w2 hb2 hk2 hz2; have HB2 := hide hb2; have HK2 := hide (HK1.out.trans hk2 (fun _ _ h => h)); clear hb2 hk2 hz2)
      | ((with_reducible refine aw_store (M := M) Try.agg79 rfl rfl HXL.out HX1.out HB2.out (by rw [zc79]; omega) ?_); intro w3 hw3 hk3 hz3; have HK3 := hide (HK2.out.trans hk3 (S := fun _ => False) (fun j hj h => by have := HK1.out.size; omega)); clear hw3 hk3 hz3))
    refine hold_frame (p := fun fr => Code.wp Try.prog _ _ fr _) ?_
    intro fr hfr
    have e0 : fr.eval (.tmp 0) = .pointer (some ⟨b, 0, none⟩) := by rw [hfr.out]; rfl
    have e1 : fr.eval (.tmp 1) = .int .i64 (m : Nat) := by rw [hfr.out]; rfl
    have hts : fr.tmps.size = 38 := by rw [hfr.out]; rfl
    refine region_S0 99 Try.mixed ?_
    intro w0 hkw hheap
    have hK0 := HK3.out.trans hkw (fun _ _ h => h)
    have HP0 := hide ((HP.out.kept hK0 (fun _ _ h => h)).blk)
    have hS0 : Kept (fun _ => False) w0 w0 := Kept.refl (fun _ => False) w0
    refine ⟨Kept (fun _ => False) w0, ?_⟩
    refine tkS 0 25 (v := .pointer (some ⟨b, 0, none⟩)) hS0 rfl rfl (by kernel_rfl) (by kernel_rfl) (by kernel_rfl) (by kernel_rfl) (wanted_none rfl) (fun _ _ _ h => h) (fun U hU => r_move (by simp [eval_put_ne, eval_put_eq, size_put, hts, e0])) ?_
    refine tkS 1 26 (v := .pointer (some ⟨b, 0, none⟩)) hS0 rfl rfl (by kernel_rfl) (by kernel_rfl) (by kernel_rfl) (by kernel_rfl) (wanted_none rfl) (fun _ _ _ h => h) (fun U hU => r_nilP (by simp [eval_put_ne, eval_put_eq, size_put, hts])) ?_
    refine tkS 2 27 (v := .pointer (some ⟨b, 0, none⟩)) hS0 rfl rfl (by kernel_rfl) (by kernel_rfl) (by kernel_rfl) (by kernel_rfl) (wanted_none rfl) (fun _ _ _ h => h) (fun U hU => r_fP0 (by simp [eval_put_ne, eval_put_eq, size_put, hts])) ?_
    refine tkS 3 28 (v := .pointer (some ⟨db, 0, none⟩)) hS0 rfl rfl (by kernel_rfl) (by kernel_rfl) (by kernel_rfl) (by kernel_rfl) (wanted_none rfl) (fun _ _ _ h => h) (fun U hU => r_ldP24 (by simp [eval_put_ne, eval_put_eq, size_put, hts]) ((hU.blk HP0.out (fun h => h)).cell 0)) ?_
    refine tkS 4 29 (v := .pointer (some ⟨b, 0, none⟩)) hS0 rfl rfl (by kernel_rfl) (by kernel_rfl) (by kernel_rfl) (by kernel_rfl) (wanted_none rfl) (fun _ _ _ h => h) (fun U hU => r_move (by simp [eval_put_ne, eval_put_eq, size_put, hts, e0])) ?_
    refine tkS 5 30 (v := .pointer (some ⟨b, 0, none⟩)) hS0 rfl rfl (by kernel_rfl) (by kernel_rfl) (by kernel_rfl) (by kernel_rfl) (wanted_none rfl) (fun _ _ _ h => h) (fun U hU => r_nilP (by simp [eval_put_ne, eval_put_eq, size_put, hts])) ?_
    refine tkS 6 31 (v := .pointer (some ⟨b, 1, none⟩)) hS0 rfl rfl (by kernel_rfl) (by kernel_rfl) (by kernel_rfl) (by kernel_rfl) (wanted_none rfl) (fun _ _ _ h => h) (fun U hU => r_fP1 (by simp [eval_put_ne, eval_put_eq, size_put, hts])) ?_
    refine tkS 7 32 (v := .int .i64 l.fr) hS0 rfl rfl (by kernel_rfl) (by kernel_rfl) (by kernel_rfl) (by kernel_rfl) (wanted_none rfl) (fun _ _ _ h => h) (fun U hU => r_ldP3 (by simp [eval_put_ne, eval_put_eq, size_put, hts]) ((hU.blk HP0.out (fun h => h)).cell 1)) ?_
    refine tkS 8 33 (v := .int .i64 (m : Nat)) hS0 rfl rfl (by kernel_rfl) (by kernel_rfl) (by kernel_rfl) (by kernel_rfl) (wanted_none rfl) (fun _ _ _ h => h) (fun U hU => r_move (by simp [eval_put_ne, eval_put_eq, size_put, hts, e1])) ?_
    refine tkS 9 34 (v := .int .i64 ((l.fr + m : Nat) : Int)) hS0 rfl rfl (by kernel_rfl) (by kernel_rfl) (by kernel_rfl) (by kernel_rfl) (wanted_none rfl) (fun _ _ _ h => h) (fun U hU => r_addP (i := l.fr) (j := m) (by simp [eval_put_ne, eval_put_eq, size_put, hts]) (by simp [eval_put_ne, eval_put_eq, size_put, hts]) (by omega)) ?_
    refine oneCS 10 35 (by kernel_rfl) rfl rfl (wanted_none rfl) (r_call3 Try.func30 (by kernel_rfl) rfl rfl (by simp [eval_put_ne, eval_put_eq, size_put, hts]) (by simp [eval_put_ne, eval_put_eq, size_put, hts]) rfl) (HRD.out w0 hK0) ?_
    rintro e w4 ⟨sl, rfl, hsl, hk4⟩
    refine ⟨_, rfl, hk4, ?_⟩
    refine raiseM (S' := Kept (fun _ => False) w4) (fun U hU => hk4.trans hU (fun _ _ h => h)) ?_
    have hS1 : Kept (fun _ => False) w4 w4 := Kept.refl _ w4
    refine tkS 11 36 (v := .slice sl.a sl.n sl.c) hS1 rfl rfl (by kernel_rfl) (by kernel_rfl) (by kernel_rfl) (by kernel_rfl) (wanted_none rfl) (fun _ _ _ h => h) (fun U hU => r_extP (n := 0) (vs := #[.slice sl.a sl.n sl.c, .int .i64 ec]) (by simp [eval_put_ne, eval_put_eq, size_put, hts]) rfl) ?_
    refine tkS 12 37 (v := .int .i64 ec) hS1 rfl rfl (by kernel_rfl) (by kernel_rfl) (by kernel_rfl) (by kernel_rfl) (wanted_none rfl) (fun _ _ _ h => h) (fun U hU => r_extP (n := 1) (vs := #[.slice sl.a sl.n sl.c, .int .i64 ec]) (by simp [eval_put_ne, eval_put_eq, size_put, hts]) rfl) ?_
    refine tkS 13 4 (v := .slice sl.a sl.n sl.c) hS1 rfl rfl (by kernel_rfl) (by kernel_rfl) (by kernel_rfl) (by kernel_rfl) (wanted_none rfl) (fun _ _ _ h => h) (fun U hU => r_assign (by simp [eval_put_ne, eval_put_eq, size_put, hts])) ?_
    refine tkS 14 5 (v := .int .i64 ec) hS1 rfl rfl (by kernel_rfl) (by kernel_rfl) (by kernel_rfl) (by kernel_rfl) (wanted_none rfl) (fun _ _ _ h => h) (fun U hU => r_assign (by simp [eval_put_ne, eval_put_eq, size_put, hts])) ?_
    refine doneS (by kernel_rfl) ?_
    have HSL := hide hsl
    have HK4 := hide (hK0.trans hk4 (fun _ _ h => h))
    clear hsl hk4 hS1 hS0 hkw hheap hK0
    rw [hfr.out]
    clear hfr e0 e1 hts
    simp only [put_lit, put_none, List.set_cons_succ, List.set_cons_zero]
    go_wp2
    go_ret2
    exact ⟨sl, rfl, HSL.out, HK4.out⟩
end Go.Proofs.Ytakpkibjpjcgbaa
