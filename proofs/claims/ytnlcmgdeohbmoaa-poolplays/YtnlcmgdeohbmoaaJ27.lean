/-
  Put of a pool: its contract.
-/
import Derived.Test.YtnlcmgdeohbmoaaJ26
namespace Go.Proofs.Ytnlcmgdeohbmoaa
open Go.RowKit Go.Shelf
set_option linter.unusedSimpArgs false
set_option linter.unusedVariables false
set_option maxRecDepth 100000

/-- The pool with some writes put. -/
def PL.puts (l : PL) (ws : List Wr) : PL := { l with hand := putsP l.hand ws, dirty := putsP l.dirty ws }
/-- What Put leaves. -/
def PL.putE (l : PL) (ws : List Wr) : PL := if withE l.n ws = 0 then l.puts ws else l
theorem poolput_nil (w : World) (v : Value) : Calls Try.prog 14 #[.pointer none, v] w fun e w' => e = .returned (.int .i64 1) ∧ w = w' := by
  go_enter Try.func14, Try.ntmps14
  go_wp2
  go_ret
  exact ⟨rfl, rfl⟩
set_option maxHeartbeats 4000000 in
theorem poolput_at (w : World) (b db : Nat) (l : PL) (X : NSet) (h : PoolAt w b db l X) (v : Value) (ws : List Wv) (hw : ∀ w', Kept X w w' → WsAt w' v ws) (hl1 : l.hand.length + ws.length ≤ 900000) (hl2 : l.dirty.length + ws.length ≤ 900000) :
    Calls Try.prog 14 #[.pointer (some ⟨b, 0, none⟩), v] w fun e w' => e = .returned (.int .i64 (withE l.n (ws.map Wv.wr))) ∧ PStep w w' b db (l.putE (ws.map Wv.wr)) X := by
  have hw0 := hw w (Kept.refl _ _)
  obtain ⟨ao, cap0, rfl⟩ := hw0.slice
  have HW := hide hw
  have hmax : ws.length ≤ 900000 := by omega
  have HR := hide (by
    obtain ⟨ph, vh, pd, vd, hp, hx⟩ := h
    exact right_at w b _ _ _ _ l.n hp.blk _ ws hw0)
  have H0 := hide h
  obtain ⟨i0, hi0, hz0, hs0, hb0⟩ := info_parts Try.info68
  have Hi0 := hide hi0
  have Hz0 := hide hz0
  have HL1 := hide hl1
  have HL2 := hide hl2
  clear h hw hw0 hi0 hz0 hs0 hb0 hl1 hl2
  obtain ⟨ec, hec⟩ : ∃ ec, ec = withE l.n (ws.map Wv.wr) := ⟨_, rfl⟩
  rw [← hec] at HR ⊢
  have HEC := hide hec
  clear hec
  by_cases he0 : ec = 0
  · subst he0
    go_enter Try.func14, Try.ntmps14
    go_wp2_with (go_at_call 33; refine HR.out.mono ?_; rintro e w1 ⟨rfl, hk1⟩; have HK1 := hide hk1; clear hk1)
    go_loopw [18] (fun i wr => ∃ k : Nat, i = .int .i64 k ∧ k ≤ ws.length ∧ Hid (PStep w wr b db (l.puts ((ws.map Wv.wr).take k)) X))
      (fun i _ => ws.length - (intOf i).toNat)
    case atStart => exact ⟨0, rfl, Nat.zero_le _, hide ((PStep.refl H0.out).post HK1.out)⟩
    case round =>
      obtain ⟨k, rfl, hk, HP⟩ := hrel
      by_cases hlt : k < ws.length
      · obtain ⟨hkr, X1, hpx, hXX⟩ := HP.out
        obtain ⟨ph, vh, pd, vd, hp, hx⟩ := hpx
        obtain ⟨ga, off, rfl, c0, c1, hsa, hna⟩ := (HW.out wr hkr).get hlt
        have hlm : k < (ws.map Wv.wr).length := by simpa using hlt
        have hall : withE l.n ((ws.map Wv.wr).drop k) = 0 := by
          have h1 := withE_append l.n ((ws.map Wv.wr).take k) ((ws.map Wv.wr).drop k)
          rw [List.take_append_drop, ← HEC.out] at h1
          split at h1
          · exact h1.symm
          · rename_i h2; exact absurd h1.symm h2
        rw [List.drop_eq_getElem_cons hlm] at hall
        obtain ⟨m, hm1, hm2, hm3, -⟩ := withE_cons hall
        rw [wr_get hlt] at hm1 hm3
        simp only at hm1 hm3
        obtain ⟨⟨pa, pn, pc⟩, hs⟩ : ∃ s, s = ws[k].s := ⟨_, rfl⟩
        rw [hm1] at c0
        rw [← hs] at c1
        simp only at c1
        have hpn : pn = 64 := by rw [← hs] at hna; simpa [hm3] using hna
        subst hpn
        have HPI := hide hp
        have HX := hide hx
        have HXX := hide hXX
        have HKR := hide hkr
        have HS := hide hs
        have HM1 := hide hm1
        have HM3 := hide hm3
        have HLT := hide hsa.lt
        have hl1 := putsP_len l.hand ((ws.map Wv.wr).take k)
        have hl2 := putsP_len l.dirty ((ws.map Wv.wr).take k)
        rw [List.length_take, List.length_map] at hl1 hl2
        have HB1 : Hid ((l.puts ((ws.map Wv.wr).take k)).hand.length ≤ 1000000) := hide (by show (putsP l.hand _).length ≤ _; have := HL1.out; omega)
        have HB2 : Hid ((l.puts ((ws.map Wv.wr).take k)).dirty.length ≤ 1000000) := hide (by show (putsP l.dirty _).length ≤ _; have := HL2.out; omega)
        obtain ⟨lk, hlk⟩ : ∃ lk, lk = l.puts ((ws.map Wv.wr).take k) := ⟨_, rfl⟩
        rw [← hlk] at HPI HB1 HB2
        have HLK := hide hlk
        obtain ⟨A, hA⟩ : ∃ A, A = ws[k].B := ⟨_, rfl⟩
        rw [← hA] at HM3 HLT
        have HA := hide hA
        obtain ⟨x, hxk⟩ : ∃ x, x = mkBk A := ⟨_, rfl⟩
        have HXB : Hid (x.B = A) := hide (by rw [hxk]; exact mkBk_B HM3.out HLT.out)
        have HXK := hide hxk
        clear hall hm1 hm3 hsa hna hs hp hx hXX hkr hlk hl1 hl2 hA hxk
        go_wp2_with (first
          | ((with_reducible refine aw_alloc (t := 68) (dst := some 7) Hi0.out Hz0.out ?_); intro w3 hw3 hk3 hz3; have Hz3 := hide hz3; clear hz3 c0 c1)
          | ((with_reducible refine aw_store (M := [.int .i64 (m : Int), .slice pa 64 pc]) Try.agg68 rfl rfl rfl (by simp [Value.oneCell']) hw3 (by simp [Value.cells]) ?_); intro w4 hw4 hk4 hz4; rw [put_whole _ _ (by simp [Value.cells])] at hw4; have HK34 := hide (hk3.trans hk4 (S := fun _ => False) (fun i hi h => by omega)); have HW4 := hide hw4; clear hz4 hw3 hk3 hk4 hw4))
        refine region_tail 10 Try.mixed (by kernel_rfl) ?_
        intro w5 hk5 hz5
        simp only [List.take_succ_cons, List.take_zero, List.drop_succ_cons, List.drop_zero]
        have HK5 := hide (HK34.out.trans hk5 (fun _ _ h => h))
        have HW5 := hide (hk5.blk HW4.out (fun h => h))
        clear hk5 hz5
        have HP5 := hide (HPI.out.kept HK5.out (fun _ _ h => h))
        have f0 : w5.cell? ⟨wr.heap.size, 0, none⟩ = some (.int .i64 m) := HW5.out.cell 0
        have f1 : w5.cell? ⟨wr.heap.size, 1, none⟩ = some (.slice pa 64 pc) := HW5.out.cell 1
        have f2 : w5.cell? ⟨b, 3, none⟩ = some (.pointer (some ⟨ph, 0, none⟩)) := HP5.out.blk.cell 3
        have hs5 := ((HW.out _ (HKR.out.trans HK5.out (fun _ _ h => h.elim))).get hlt).choose_spec.choose_spec.2.2.2.1
        rw [← HS.out, ← HA.out] at hs5
        obtain ⟨bo, cap2, e, hs1, hs2, hs3, hs4⟩ := hs5
        simp only [Value.slice.injEq] at e
        obtain ⟨rfl, e2, rfl⟩ := e
        obtain ⟨sb, so, rfl, hcell⟩ := hs3 (by omega)
        have HCELL := hide hcell
        clear e2 hs1 hs2 hs3 hs4 hcell
        still_step
        still_step
        still_step
        still_step
        still_step
        still_step
        still_step
        still_step
        refine wpStill_run rfl (run_arr79 rfl (Nat.le_refl _)) ?_
        refine wpStill_run rfl (run_load_cells Try.agg79 rfl (by rw [BV_length]; exact HM3.out) HCELL.out) ?_
        refine wpStill_nil ?_
        simp only [put_lit, put_none, List.set_cons_succ, List.set_cons_zero]
        have HC1 := hide (put_atP w5 ph vh lk.hand m x HP5.out.hm HB1.out)
        rw [HXB.out] at HC1
        clear f0 f1 f2
        go_wp2_with fail
        refine HC1.out.mono ?_
        rintro e w6 ⟨rfl, hs6⟩
        obtain ⟨vh', hp6, hk6, hf6⟩ := HP5.out.handS hs6
        have HP6 := hide hp6
        have HK6 := hide hk6
        have HF6 := hide hf6
        have hbX : ∀ k, footP b ph vh pd vd k → X k ∨ w.heap.size ≤ k := fun k hk => HXX.out k ((HX.out k).2 hk)
        have hk06 : Kept X w w6 := (HKR.out.trans HK5.out (fun _ _ h => h.elim)).trans hk6 (fun j hj h => (hbX j h).elim id (fun h => by omega))
        have HK06 := hide hk06
        have hk26 : Kept (footP b ph vh pd vd) wr w6 := (HK5.out.mono (fun _ _ h => h.elim)).trans hk6 (fun _ _ h => h)
        have hwn : ¬ footP b ph vh pd vd wr.heap.size := fun h => by
          have := PoolAt.lt (w := wr) (b := b) (db := db) (l := lk) (X := footP b ph vh pd vd) ⟨ph, vh, pd, vd, HPI.out, fun _ => Iff.rfl⟩ _ h
          omega
        have HW6 := hide (hk6.blk HW5.out hwn)
        clear hs6 hp6 hk6 hf6 hk06 hk26 hwn hbX HCELL
        simp only [put_lit, put_none, List.set_cons_succ, List.set_cons_zero]
        go_wp2
        refine region_tail 10 Try.mixed (by kernel_rfl) ?_
        intro w7 hk7 hz7
        simp only [List.take_succ_cons, List.take_zero, List.drop_succ_cons, List.drop_zero]
        have HK7 := hide hk7
        have HW7 := hide (hk7.blk HW6.out (fun h => h))
        have HP7 := hide (HP6.out.kept hk7 (fun _ _ h => h))
        clear hk7 hz7
        have f0 : w7.cell? ⟨wr.heap.size, 0, none⟩ = some (.int .i64 m) := HW7.out.cell 0
        have f1 : w7.cell? ⟨wr.heap.size, 1, none⟩ = some (.slice (some ⟨sb, so, none⟩) 64 pc) := HW7.out.cell 1
        have f2 : w7.cell? ⟨b, 4, none⟩ = some (.pointer (some ⟨pd, 0, none⟩)) := HP7.out.blk.cell 4
        have hs7 := ((HW.out _ (HK06.out.trans HK7.out (fun _ _ h => h.elim))).get hlt).choose_spec.choose_spec.2.2.2.1
        rw [← HS.out, ← HA.out] at hs7
        obtain ⟨bo, cap2, e, hs1, hs2, hs3, hs4⟩ := hs7
        simp only [Value.slice.injEq] at e
        obtain ⟨e1, e2, -⟩ := e
        obtain ⟨sb', so', e3, hcell⟩ := hs3 (by omega)
        rw [e3] at e1
        simp only [Option.some.injEq, Addr.mk.injEq, and_true] at e1
        obtain ⟨rfl, rfl⟩ := e1
        have HCELL := hide hcell
        clear e2 e3 hs1 hs2 hs3 hs4 hcell
        still_step
        still_step
        still_step
        still_step
        still_step
        still_step
        still_step
        still_step
        refine wpStill_run rfl (run_arr79 rfl (Nat.le_refl _)) ?_
        refine wpStill_run rfl (run_load_cells Try.agg79 rfl (by rw [BV_length]; exact HM3.out) HCELL.out) ?_
        refine wpStill_nil ?_
        simp only [put_lit, put_none, List.set_cons_succ, List.set_cons_zero]
        have HC2 := hide (put_atP w7 pd vd lk.dirty m x HP7.out.dm HB2.out)
        rw [HXB.out] at HC2
        clear f0 f1 f2
        go_wp2_with fail
        refine HC2.out.mono ?_
        rintro e w8 ⟨rfl, hs8⟩
        obtain ⟨vd', hp8, hk8, hf8⟩ := HP7.out.dirtyS hs8
        have HFIN : Hid (PStep w w8 b db (l.puts ((ws.map Wv.wr).take (k + 1))) X) := hide (by
          have s5 := HK5.out.size
          have s6 := HK6.out.size
          have s7 := HK7.out.size
          have sr := HKR.out.size
          have hst : ∀ k, footP b ph vh' pd vd k → X k ∨ w.heap.size ≤ k := fun k hk => by
            rcases HF6.out k hk with h | h
            · exact HXX.out k ((HX.out k).2 h)
            · exact .inr (by omega)
          refine ⟨(HK06.out.trans HK7.out (fun _ _ h => h.elim)).trans hk8 (fun j hj h => (hst j h).elim id (fun h => by omega)), footP b ph vh' pd vd', ⟨ph, vh', pd, vd', ?_, fun _ => Iff.rfl⟩, ?_⟩
          · have e : l.puts ((ws.map Wv.wr).take (k + 1)) = { lk with hand := putK ltI lk.hand m x, dirty := putK ltI lk.dirty m x } := by
              rw [HLK.out]
              unfold PL.puts
              rw [putsP_take1 hlm, putsP_take1 hlm, wr_get hlt, HXK.out, HA.out]
              simp only [HM1.out]
            rw [e]
            exact hp8
          · intro k hk
            rcases hf8 k hk with h | h
            · exact hst k h
            · exact .inr (by omega))
        clear hs8 hp8 hk8 hf8
        simp only [put_lit, put_none, List.set_cons_succ, List.set_cons_zero]
        go_wp2
        go_roundw
        case rel => exact ⟨k + 1, by simp, by omega, HFIN⟩
        case measure => simp [intOf]; omega
      · obtain rfl : k = ws.length := by omega
        go_wp2
        go_ret
        have htk : (ws.map Wv.wr).take ws.length = ws.map Wv.wr := List.take_of_length_le (by simp)
        rw [htk] at HP
        refine ⟨rfl, ?_⟩
        unfold PL.putE
        rw [if_pos HEC.out.symm]
        exact HP.out
  · have hcs := withE_cases l.n (ws.map Wv.wr)
    rw [← HEC.out] at hcs
    have HPE : Hid (l.putE (ws.map Wv.wr) = l) := hide (by unfold PL.putE; rw [if_neg (by rw [← HEC.out]; exact he0)])
    rcases hcs with h | rfl | rfl
    · exact absurd h he0
    · go_enter Try.func14, Try.ntmps14
      go_wp2_with (go_at_call 33; refine HR.out.mono ?_; rintro e w1 ⟨rfl, hk1⟩; have HK1 := hide hk1; clear hk1)
      go_ret
      exact ⟨rfl, by rw [HPE.out]; exact (PStep.refl H0.out).post HK1.out⟩
    · go_enter Try.func14, Try.ntmps14
      go_wp2_with (go_at_call 33; refine HR.out.mono ?_; rintro e w1 ⟨rfl, hk1⟩; have HK1 := hide hk1; clear hk1)
      go_ret
      exact ⟨rfl, by rw [HPE.out]; exact (PStep.refl H0.out).post HK1.out⟩
end Go.Proofs.Ytnlcmgdeohbmoaa

/-
  New and Get of a pool.
-/
namespace Go.Proofs.Ytnlcmgdeohbmoaa
open Go.RowKit Go.Shelf
set_option linter.unusedSimpArgs false
set_option linter.unusedVariables false
set_option maxRecDepth 100000

/-- Bytes of values. -/
def NV (L : List Value) : List Nat := L.map fun v => match v with | .int _ i => i.toNat | _ => 0
theorem NV_len (L : List Value) : (NV L).length = L.length := by simp [NV]
theorem BV_NV {L : List Value} (h : ∀ v ∈ L, D.isByte v) : BV (NV L) = L := by
  induction L with
  | nil => rfl
  | cons v L ih =>
    obtain ⟨n, rfl, h0, h1⟩ := h v (by simp)
    have := ih (fun u hu => h u (by simp [hu]))
    simp only [BV, NV, List.map_cons] at this ⊢
    rw [this]
    congr 2
    exact Int.toNat_of_nonneg h0
theorem NV_lt {L : List Value} (h : ∀ v ∈ L, D.isByte v) : ∀ x ∈ NV L, x < 256 := by
  intro x hx
  simp only [NV, List.mem_map] at hx
  obtain ⟨v, hv, rfl⟩ := hx
  obtain ⟨n, rfl, h0, h1⟩ := h v hv
  show n.toNat < 256
  omega
theorem NV_BV (B : List Nat) : NV (BV B) = B := by
  simp only [NV, BV, List.map_map]
  have : ((fun v : Value => match v with | .int _ i => i.toNat | _ => 0) ∘ fun n : Nat => Value.int .u8 (n : Int)) = id := by
    funext n
    simp
  rw [this, List.map_id]
theorem src_blk {w : World} {g : Nat} {t : TypeId} {L : List Value} (h : Blk w g L t) (hb : ∀ v ∈ L, D.isByte v) (n : Nat) (hn : n = L.length) : Src w (.slice (some ⟨g, 0, none⟩) n n) (NV L) := by
  subst hn
  refine ⟨_, L.length, by rw [NV_len], by rw [NV_len]; exact Nat.le_refl _, NV_lt hb, fun _ => ⟨g, 0, rfl, ?_⟩, fun h => by cases h⟩
  have := h.cells 0 L.length
  rw [List.drop_zero, List.take_length] at this
  rw [BV_NV hb]
  exact this
theorem D.DevAt.view {w : World} {b n : Nat} {s : D.DS} {F : Nat → Prop} (h : D.DevAt w b n s F) : s.view.length = 64 * n ∧ ∀ v ∈ s.view, D.isByte v := by
  obtain ⟨bs, wv, hd, hf⟩ := h
  exact D.laidTo_ok _ n s.ws s.st hd.ok hd.hl hd.hB _ (Nat.le_refl _)
theorem part_byte {L : List Value} (h : ∀ v ∈ L, D.isByte v) (a m : Nat) : ∀ v ∈ D.part L a m, D.isByte v := fun v hv => h v (List.mem_of_mem_drop (List.mem_of_mem_take hv))
/-- A device and a pool over it. -/
structure PDv (w : World) (db nd : Nat) (s : D.DS) (b : Nat) (l : PL) (F X : NSet) : Prop where
  dev : D.DevAt w db nd s F
  pool : PoolAt w b db l X
  ap : ∀ k, X k → ¬ F k
  fit : l.fr + l.n ≤ nd
theorem PDv.kept {w w' : World} {db nd : Nat} {s : D.DS} {b : Nat} {l : PL} {F X : NSet} (h : PDv w db nd s b l F X) (hk : Kept (fun _ => False) w w') : PDv w' db nd s b l F X :=
  ⟨h.dev.kept hk (fun _ _ h => h), h.pool.kept hk (fun _ _ h => h), h.ap, h.fit⟩
/-- What Get tells. -/
def PL.getE (l : PL) (s : D.DS) (m : Nat) : Int := match getP l.hand m with | some _ => 0 | none => if s.off then 10 else 0
def PL.getV (l : PL) (s : D.DS) (m : Nat) : List Nat := match getP l.hand m with | some x => x.B | none => if s.off then [] else NV (D.part s.view (l.fr + m) 1)
section
variable {ρ : Operand → Value} {w : World} {dst : Option Tmp} {ty : TypeId} {pos : String} {aft : Array Edge} {gd : Option (Nat × Bool)} {x y z : Operand}
theorem r_fP0 {b : Nat} (hx : ρ x = .pointer (some ⟨b, 0, none⟩)) : (execOp ρ ⟨dst, .fieldAddr 76 x 0, ty, pos, aft, gd⟩).run Try.prog w = .ok (.value (.pointer (some ⟨b, 0, none⟩))) w := by
  go_simp
theorem r_fP1 {b : Nat} (hx : ρ x = .pointer (some ⟨b, 0, none⟩)) : (execOp ρ ⟨dst, .fieldAddr 76 x 1, ty, pos, aft, gd⟩).run Try.prog w = .ok (.value (.pointer (some ⟨b, 1, none⟩))) w := by
  go_simp
theorem r_ldP24 {p : Addr} {v : Value} (hx : ρ x = .pointer (some p)) (hc : w.cell? p = some v) : (execOp ρ ⟨dst, .load 24 x, ty, pos, aft, gd⟩).run Try.prog w = .ok (.value v) w := by
  go_simp
theorem r_ldP28 {p : Addr} {v : Value} (hx : ρ x = .pointer (some p)) (hc : w.cell? p = some v) : (execOp ρ ⟨dst, .load 28 x, ty, pos, aft, gd⟩).run Try.prog w = .ok (.value v) w := by
  go_simp
theorem r_ldP3 {p : Addr} {v : Value} (hx : ρ x = .pointer (some p)) (hc : w.cell? p = some v) : (execOp ρ ⟨dst, .load 3 x, ty, pos, aft, gd⟩).run Try.prog w = .ok (.value v) w := by
  go_simp
theorem r_addP {i j : Nat} (hx : ρ x = .int .i64 i) (hy : ρ y = .int .i64 j) (h : i + j ≤ 9223372036854775807) : (execOp ρ ⟨dst, .binOp .add 3 x y 3, ty, pos, aft, gd⟩).run Try.prog w = .ok (.value (.int .i64 ((i + j : Nat) : Int))) w := by
  have hw : IntKind.i64.wrap ((i : Int) + (j : Int)) = ((i + j : Nat) : Int) := by rw [IntKind.wrap_i64]; omega
  go_simp
theorem r_extP {n : Nat} {vs : Array Value} {v : Value} (hx : ρ x = .tuple vs) (h : vs[n]? = some v) : (execOp ρ ⟨dst, .extract x n, ty, pos, aft, gd⟩).run Try.prog w = .ok (.value v) w := by
  simp [execOp, hx, Instr.extract, h]
end
/-- Read of one sector. -/
theorem dread1_at (w : World) (db nd : Nat) (s : D.DS) (F : NSet) (h : D.DevAt w db nd s F) (a : Nat) (ha : a + 1 ≤ nd) :
    Calls Try.prog 30 #[.pointer (some ⟨db, 0, none⟩), .int .i64 (a : Nat), .int .i64 1] w fun e w' => ∃ sl : Sl, e = .returned (.tuple #[.slice sl.a sl.n sl.c, .int .i64 (if s.off then 10 else 0)]) ∧ Src w' sl.v (if s.off then [] else NV (D.part s.view a 1)) ∧ Kept (fun _ => False) w w' := by
  cases ho : s.off with
  | true =>
    refine (D.read_off w db nd s F h a 1 ho).mono ?_
    rintro e w' ⟨rfl, rfl⟩
    exact ⟨⟨none, 0, 0⟩, by simp, by simpa using Src.nil _, Kept.refl _ _⟩
  | false =>
    refine (D.read_ok w db nd s F h a 1 ho ha).mono ?_
    rintro e w' ⟨g, rfl, hb, hk, hg⟩
    refine ⟨⟨some ⟨g, 0, none⟩, 64, 64⟩, by simp, ?_, hk⟩
    have := src_blk hb (part_byte h.view.2 _ _) 64 (D.part_length _ nd _ 1 h.view.1 ha).symm
    simpa using this
theorem poolget_nil (w : World) (k : Int) : Calls Try.prog 11 #[.pointer none, .int .i64 k] w fun e w' => e = .returned (.tuple #[.slice none 0 0, .int .i64 1]) ∧ w = w' := by
  go_enter Try.func11, Try.ntmps11
  go_wp2
  go_ret2
  exact ⟨rfl, rfl⟩
theorem poolget_no (w : World) (b db : Nat) (l : PL) (X : NSet) (h : PoolAt w b db l X) (k : Int) (hk : ¬ (0 ≤ k ∧ k < l.n)) : Calls Try.prog 11 #[.pointer (some ⟨b, 0, none⟩), .int .i64 k] w fun e w' => e = .returned (.tuple #[.slice none 0 0, .int .i64 41]) ∧ w = w' := by
  obtain ⟨ph, vh, pd, vd, h, hx⟩ := h
  have HH := hide (poolhas_at w b _ _ _ _ l.n h.blk k false (by simpa using hk))
  clear h hx hk
  go_enter Try.func11, Try.ntmps11
  go_wp2_with (go_at_call 28; refine HH.out.mono ?_; rintro e w1 ⟨rfl, rfl⟩)
  go_ret2
  exact ⟨rfl, rfl⟩
set_option maxHeartbeats 2000000 in
theorem poolget_at (w : World) (db nd : Nat) (s : D.DS) (b : Nat) (l : PL) (F X : NSet) (h : PDv w db nd s b l F X) (m : Nat) (hm : m < l.n) (hl : l.hand.length ≤ 1000000) :
    Calls Try.prog 11 #[.pointer (some ⟨b, 0, none⟩), .int .i64 m] w fun e w' => ∃ sl : Sl, e = .returned (.tuple #[.slice sl.a sl.n sl.c, .int .i64 (l.getE s m)]) ∧ Src w' sl.v (l.getV s m) ∧ Kept (fun _ => False) w w' := by
  obtain ⟨ph, vh, pd, vd, hp, hx⟩ := h.pool
  have hn2 : nd ≤ 4096 := by obtain ⟨bs, wv, hd, _⟩ := h.dev; exact hd.n2
  have HH := hide (poolhas_at w b _ _ _ _ l.n hp.blk m true (by simp; omega))
  have HP := hide hp
  have HD := hide h.dev
  have hfit := h.fit
  obtain ⟨i0, hi0, hz0, hs0, hb0⟩ := info_parts Try.info79
  have Hi0 := hide hi0
  have Hz0 := hide hz0
  have c3 : w.cell? ⟨b, 3, none⟩ = some (.pointer (some ⟨ph, 0, none⟩)) := hp.blk.cell 3
  have HX := hide hx
  clear h hp hi0 hz0 hs0 hb0 hx
  unfold PL.getE PL.getV
  cases hg : getP l.hand (m : Int) with
  | some x =>
    have HG := hide (get_someP w ph vh l.hand m x HP.out.hm hl hg)
    have hx1 := BV_one x.B
    have hxl := BVk_length x
    obtain ⟨M, hM⟩ : ∃ M, M = BV x.B := ⟨_, rfl⟩
    rw [← hM] at HG hx1 hxl
    have HXL := hide hxl
    have HX1 := hide hx1
    have HM := hide hM
    clear hg hM hx1 hxl
    go_enter Try.func11, Try.ntmps11
    go_wp2_with (first
      | (go_at_call 28; refine HH.out.mono ?_; rintro e w1 ⟨rfl, rfl⟩)
      | (go_at_call 29; refine HG.out.mono ?_; rintro e w1 ⟨rfl, hk1⟩; have HK1 := hide hk1; clear hk1 c3)
      | ((with_reducible refine aw_alloc (t := 79) Hi0.out Hz0.out ?_); intro w2 hb2 hk2 hz2; have HB2 := hide hb2; have HK2 := hide (HK1.out.trans hk2 (fun _ _ h => h)); clear hb2 hk2 hz2)
      | ((with_reducible refine aw_store (M := M) Try.agg79 rfl rfl HXL.out HX1.out HB2.out (by rw [zc79]; omega) ?_); intro w3 hw3 hk3 hz3; have HW3 := hide hw3; rw [put_whole _ _ (by rw [zc79, HXL.out])] at HW3; have HK3 := hide hk3; clear hw3 hk3 hz3)
      | (with_reducible refine stop_slice 79 ?_))
    refine hide ?_
    refine wpList_run rfl (run_slice79 rfl) ?_
    simp only [put_lit, put_none, List.set_cons_succ, List.set_cons_zero]
    go_wp2
    go_ret2
    refine ⟨⟨some ⟨w1.heap.size, 0, none⟩, 64, 64⟩, rfl, ?_, HK2.out.trans HK3.out (fun j hj h => by have := HK1.out.size; omega)⟩
    have h := HW3.out
    rw [HM.out] at h
    have hsr := src_blk h (BV_isByte x.lt) 64 (BVk_length x).symm
    rw [NV_BV] at hsr
    exact hsr
  | none =>
    have HG := hide (get_noneP w ph vh l.hand m HP.out.hm hl hg)
    obtain ⟨M, hM⟩ : ∃ M, M = List.replicate 64 (Value.int .u8 0) := ⟨_, rfl⟩
    rw [← hM] at HG
    have HXL : Hid (M.length = 64) := hide (by rw [hM]; rfl)
    have HX1 : Hid (∀ u ∈ M, u.oneCell' = true) := hide (by rw [hM]; intro u hu; rw [List.eq_of_mem_replicate hu]; rfl)
    clear hg hM
    obtain ⟨ec, hec⟩ : ∃ ec : Int, ec = if s.off then 10 else 0 := ⟨_, rfl⟩
    have HRD := hide (fun (w' : World) (hk : Kept (fun _ => False) w w') => dread1_at w' db nd s F (HD.out.kept hk (fun _ _ h => h)) (l.fr + m) (by omega))
    have hif : (if s.off = true then (10 : Int) else 0) = ec := hec.symm
    obtain ⟨Bv, hBv⟩ : ∃ Bv, Bv = if s.off then [] else NV (D.part s.view (l.fr + m) 1) := ⟨_, rfl⟩
    have hib : (if s.off = true then [] else NV (D.part s.view (l.fr + m) 1)) = Bv := hBv.symm
    simp only [hif, hib] at HRD ⊢
    clear hec hif hBv hib
    go_enter Try.func11, Try.ntmps11
    go_wp2_with (first
      | (go_at_call 28; refine HH.out.mono ?_; rintro e w1 ⟨rfl, rfl⟩)
      | (go_at_call 29; refine HG.out.mono ?_; rintro e w1 ⟨rfl, hk1⟩; have HK1 := hide hk1; clear hk1 c3)
      | ((with_reducible refine aw_alloc (t := 79) Hi0.out Hz0.out ?_); intro w2 hb2 hk2 hz2; have HB2 := hide hb2; have HK2 := hide (HK1.out.trans hk2 (fun _ _ h => h)); clear hb2 hk2 hz2)
      | ((with_reducible refine aw_store (M := M) Try.agg79 rfl rfl HXL.out HX1.out HB2.out (by rw [zc79]; omega) ?_); intro w3 hw3 hk3 hz3; have HK3 := hide (HK2.out.trans hk3 (S := fun _ => False) (fun j hj h => by have := HK1.out.size; omega)); clear hw3 hk3 hz3))
    refine hold_frame (p := fun fr => Code.wp Try.prog _ _ fr _) ?_
    intro fr hfr
    have e0 : fr.eval (.tmp 0) = .pointer (some ⟨b, 0, none⟩) := by rw [hfr.out]; rfl
    have e1 : fr.eval (.tmp 1) = .int .i64 (m : Nat) := by rw [hfr.out]; rfl
    have hts : fr.tmps.size = 38 := by rw [hfr.out]; rfl
    refine region_S0 99 Try.mixed ?_
    intro w0 hkw hheap
    have hK0 := HK3.out.trans hkw (fun _ _ h => h)
    have HP0 := hide ((HP.out.kept hK0 (fun _ _ h => h)).blk)
    have hS0 : Kept (fun _ => False) w0 w0 := Kept.refl (fun _ => False) w0
    refine ⟨Kept (fun _ => False) w0, ?_⟩
    refine tkS 0 25 (v := .pointer (some ⟨b, 0, none⟩)) hS0 rfl rfl (by kernel_rfl) (by kernel_rfl) (by kernel_rfl) (by kernel_rfl) (wanted_none rfl) (fun _ _ _ h => h) (fun U hU => r_move (by simp [eval_put_ne, eval_put_eq, size_put, hts, e0])) ?_
    refine tkS 1 26 (v := .pointer (some ⟨b, 0, none⟩)) hS0 rfl rfl (by kernel_rfl) (by kernel_rfl) (by kernel_rfl) (by kernel_rfl) (wanted_none rfl) (fun _ _ _ h => h) (fun U hU => r_nilP (by simp [eval_put_ne, eval_put_eq, size_put, hts])) ?_
    refine tkS 2 27 (v := .pointer (some ⟨b, 0, none⟩)) hS0 rfl rfl (by kernel_rfl) (by kernel_rfl) (by kernel_rfl) (by kernel_rfl) (wanted_none rfl) (fun _ _ _ h => h) (fun U hU => r_fP0 (by simp [eval_put_ne, eval_put_eq, size_put, hts])) ?_
    refine tkS 3 28 (v := .pointer (some ⟨db, 0, none⟩)) hS0 rfl rfl (by kernel_rfl) (by kernel_rfl) (by kernel_rfl) (by kernel_rfl) (wanted_none rfl) (fun _ _ _ h => h) (fun U hU => r_ldP24 (by simp [eval_put_ne, eval_put_eq, size_put, hts]) ((hU.blk HP0.out (fun h => h)).cell 0)) ?_
    refine tkS 4 29 (v := .pointer (some ⟨b, 0, none⟩)) hS0 rfl rfl (by kernel_rfl) (by kernel_rfl) (by kernel_rfl) (by kernel_rfl) (wanted_none rfl) (fun _ _ _ h => h) (fun U hU => r_move (by simp [eval_put_ne, eval_put_eq, size_put, hts, e0])) ?_
    refine tkS 5 30 (v := .pointer (some ⟨b, 0, none⟩)) hS0 rfl rfl (by kernel_rfl) (by kernel_rfl) (by kernel_rfl) (by kernel_rfl) (wanted_none rfl) (fun _ _ _ h => h) (fun U hU => r_nilP (by simp [eval_put_ne, eval_put_eq, size_put, hts])) ?_
    refine tkS 6 31 (v := .pointer (some ⟨b, 1, none⟩)) hS0 rfl rfl (by kernel_rfl) (by kernel_rfl) (by kernel_rfl) (by kernel_rfl) (wanted_none rfl) (fun _ _ _ h => h) (fun U hU => r_fP1 (by simp [eval_put_ne, eval_put_eq, size_put, hts])) ?_
    refine tkS 7 32 (v := .int .i64 l.fr) hS0 rfl rfl (by kernel_rfl) (by kernel_rfl) (by kernel_rfl) (by kernel_rfl) (wanted_none rfl) (fun _ _ _ h => h) (fun U hU => r_ldP3 (by simp [eval_put_ne, eval_put_eq, size_put, hts]) ((hU.blk HP0.out (fun h => h)).cell 1)) ?_
    refine tkS 8 33 (v := .int .i64 (m : Nat)) hS0 rfl rfl (by kernel_rfl) (by kernel_rfl) (by kernel_rfl) (by kernel_rfl) (wanted_none rfl) (fun _ _ _ h => h) (fun U hU => r_move (by simp [eval_put_ne, eval_put_eq, size_put, hts, e1])) ?_
    refine tkS 9 34 (v := .int .i64 ((l.fr + m : Nat) : Int)) hS0 rfl rfl (by kernel_rfl) (by kernel_rfl) (by kernel_rfl) (by kernel_rfl) (wanted_none rfl) (fun _ _ _ h => h) (fun U hU => r_addP (i := l.fr) (j := m) (by simp [eval_put_ne, eval_put_eq, size_put, hts]) (by simp [eval_put_ne, eval_put_eq, size_put, hts]) (by omega)) ?_
    refine oneCS 10 35 (by kernel_rfl) rfl rfl (wanted_none rfl) (r_call3 Try.func30 (by kernel_rfl) rfl rfl (by simp [eval_put_ne, eval_put_eq, size_put, hts]) (by simp [eval_put_ne, eval_put_eq, size_put, hts]) rfl) (HRD.out w0 hK0) ?_
    rintro e w4 ⟨sl, rfl, hsl, hk4⟩
    refine ⟨_, rfl, hk4, ?_⟩
    refine raiseM (S' := Kept (fun _ => False) w4) (fun U hU => hk4.trans hU (fun _ _ h => h)) ?_
    have hS1 : Kept (fun _ => False) w4 w4 := Kept.refl _ w4
    refine tkS 11 36 (v := .slice sl.a sl.n sl.c) hS1 rfl rfl (by kernel_rfl) (by kernel_rfl) (by kernel_rfl) (by kernel_rfl) (wanted_none rfl) (fun _ _ _ h => h) (fun U hU => r_extP (n := 0) (vs := #[.slice sl.a sl.n sl.c, .int .i64 ec]) (by simp [eval_put_ne, eval_put_eq, size_put, hts]) rfl) ?_
    refine tkS 12 37 (v := .int .i64 ec) hS1 rfl rfl (by kernel_rfl) (by kernel_rfl) (by kernel_rfl) (by kernel_rfl) (wanted_none rfl) (fun _ _ _ h => h) (fun U hU => r_extP (n := 1) (vs := #[.slice sl.a sl.n sl.c, .int .i64 ec]) (by simp [eval_put_ne, eval_put_eq, size_put, hts]) rfl) ?_
    refine tkS 13 4 (v := .slice sl.a sl.n sl.c) hS1 rfl rfl (by kernel_rfl) (by kernel_rfl) (by kernel_rfl) (by kernel_rfl) (wanted_none rfl) (fun _ _ _ h => h) (fun U hU => r_assign (by simp [eval_put_ne, eval_put_eq, size_put, hts])) ?_
    refine tkS 14 5 (v := .int .i64 ec) hS1 rfl rfl (by kernel_rfl) (by kernel_rfl) (by kernel_rfl) (by kernel_rfl) (wanted_none rfl) (fun _ _ _ h => h) (fun U hU => r_assign (by simp [eval_put_ne, eval_put_eq, size_put, hts])) ?_
    refine doneS (by kernel_rfl) ?_
    have HSL := hide hsl
    have HK4 := hide (hK0.trans hk4 (fun _ _ h => h))
    clear hsl hk4 hS1 hS0 hkw hheap hK0
    rw [hfr.out]
    clear hfr e0 e1 hts
    simp only [put_lit, put_none, List.set_cons_succ, List.set_cons_zero]
    go_wp2
    go_ret2
    exact ⟨sl, rfl, HSL.out, HK4.out⟩
end Go.Proofs.Ytnlcmgdeohbmoaa
