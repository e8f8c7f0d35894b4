/-
  Put of a pool.
-/
import Derived.Test.YtakpkibjpjcgbaaPoT
namespace Go.Proofs.Ytakpkibjpjcgbaa
open Go.RowKit Go.Shelf
set_option linter.unusedSimpArgs false
set_option linter.unusedVariables false
set_option maxRecDepth 100000

/-- 64 bytes as a block; else noughts. -/
def mkBk (B : List Nat) : Bk := if h : B.length = 64 ∧ ∀ x ∈ B, x < 256 then ⟨B, h.1, h.2⟩ else ⟨List.replicate 64 0, by simp, by simp⟩
theorem mkBk_B {B : List Nat} (h : B.length = 64) (h2 : ∀ x ∈ B, x < 256) : (mkBk B).B = B := by
  unfold mkBk
  rw [dif_pos ⟨h, h2⟩]
/-- Some writes are put. -/
def putsP (l : List EntP) (ws : List Wr) : List EntP := ws.foldl (fun l x => putK ltI l x.blk (mkBk x.B)) l
theorem putsP_take1 {l : List EntP} {ws : List Wr} {k : Nat} (h : k < ws.length) : putsP l (ws.take (k + 1)) = putK ltI (putsP l (ws.take k)) ws[k].blk (mkBk ws[k].B) := by
  unfold putsP
  rw [List.take_succ_eq_append_getElem h, List.foldl_append]
  rfl
theorem putsP_len (l : List EntP) : ∀ (ws : List Wr), (putsP l ws).length ≤ l.length + ws.length := by
  intro ws
  induction ws generalizing l with
  | nil => simp [putsP]
  | cons w ws ih =>
    have h := (putK_length ltI l w.blk (mkBk w.B)).1
    have h2 := ih (putK ltI l w.blk (mkBk w.B))
    have e : putsP l (w :: ws) = putsP (putK ltI l w.blk (mkBk w.B)) ws := rfl
    rw [e, List.length_cons]
    omega
theorem Try.und79 : Try.prog.underlying 79 = some (.array 64 5) := by kernel_rfl
theorem run_arr79 {ρ : Operand → Value} {w : World} {dst : Option Tmp} {ty : TypeId} {x : Operand} {pos : String} {aft : Array Edge} {gd : Option (Nat × Bool)} {a : Option Addr} {n c : Nat} (hx : ρ x = .slice a n c) (hn : 64 ≤ n) :
    (execOp ρ ⟨dst, .sliceToArrayPointer 79 x, ty, pos, aft, gd⟩).run Try.prog w = .ok (.value (.pointer a)) w := by
  have h : ¬ n < 64 := by omega
  simp [execOp, hx, Instr.arrayAt, run_underlying Try.und79, h]
theorem run_slice79 {ρ : Operand → Value} {w : World} {dst : Option Tmp} {ty : TypeId} {x : Operand} {pos : String} {aft : Array Edge} {gd : Option (Nat × Bool)} {b off : Nat} (hx : ρ x = .pointer (some ⟨b, off, none⟩)) :
    (execOp ρ ⟨dst, .slice 79 x none none none, ty, pos, aft, gd⟩).run Try.prog w = .ok (.value (.slice (some ⟨b, off, none⟩) 64 64)) w := by
  obtain ⟨i0, hi0, hz0, hs0, hb0⟩ := info_parts Try.info5
  simp [execOp, hx, Instr.sliceAt, run_underlying Try.und79, Instr.sureAddr, Instr.sliceBounds, Instr.sliceBound, sizeOf, typeInfo, hi0, hs0, addr_add]

section
variable {w w' : World} {b db : Nat} {l : PL} {ph pd : Nat} {vh vd : Value}
theorem PoolIs.handS (h : PoolIs w b db l ph vh pd vd) {L : List EntP} (hs : StepP w w' ph vh L) : ∃ vh', PoolIs w' b db { l with hand := L } ph vh' pd vd ∧ Kept (footP b ph vh pd vd) w w' ∧ ∀ k, footP b ph vh' pd vd k → footP b ph vh pd vd k ∨ w.heap.size ≤ k := by
  obtain ⟨vh', hm, hk, hf⟩ := hs
  refine ⟨vh', ⟨hk.blk h.blk h.nb.1, hm, h.dm.kept hk (fun e => h.ap _ e (.inl rfl)) (fun k hk e => h.ap _ e (.inr hk)), ?_⟩, hk.mono (fun k _ h => .inr (.inl h)), ?_⟩
  · intro k hk1 hk2
    rcases hf k hk1 with h1 | h1
    · exact h.ap k h1 hk2
    · have := h.dm.lt hk2; omega
  · rintro k (h1 | h1 | h1)
    · exact .inl (.inl h1)
    · exact (hf k h1).imp (fun h => .inr (.inl h)) id
    · exact .inl (.inr (.inr h1))
theorem PoolIs.dirtyS (h : PoolIs w b db l ph vh pd vd) {L : List EntP} (hs : StepP w w' pd vd L) : ∃ vd', PoolIs w' b db { l with dirty := L } ph vh pd vd' ∧ Kept (footP b ph vh pd vd) w w' ∧ ∀ k, footP b ph vh pd vd' k → footP b ph vh pd vd k ∨ w.heap.size ≤ k := by
  obtain ⟨vd', hm, hk, hf⟩ := hs
  refine ⟨vd', ⟨hk.blk h.blk h.nb.2, h.hm.kept hk (fun e => h.ap _ (.inl rfl) e) (fun k hk e => h.ap _ (.inr hk) e), hm, ?_⟩, hk.mono (fun k _ h => .inr (.inr h)), ?_⟩
  · intro k hk1 hk2
    rcases hf k hk2 with h1 | h1
    · exact h.ap k hk1 h1
    · have := h.hm.lt hk1; omega
  · rintro k (h1 | h1 | h1)
    · exact .inl (.inl h1)
    · exact .inl (.inr (.inl h1))
    · exact (hf k h1).imp (fun h => .inr (.inr h)) id
end

set_option maxHeartbeats 4000000 in
theorem right_at (w : World) (b : Nat) (p0 p1 p3 p4 : Value) (n : Nat) (h : Blk w b [p0, p1, .int .i64 n, p3, p4] 76) (v : Value) (l : List Wv) (hl : WsAt w v l) :
    Calls Try.prog 33 #[.pointer (some ⟨b, 0, none⟩), v] w fun e w' => e = .returned (.int .i64 (withE n (l.map Wv.wr))) ∧ Kept (fun _ => False) w w' := by
  obtain ⟨ao, cap0, rfl⟩ := hl.slice
  have HL := hide hl
  have hmax := hl.2.2
  obtain ⟨i0, hi0, hz0, hs0, hb0⟩ := info_parts Try.info68
  have Hi0 := hide hi0
  have Hz0 := hide hz0
  have Hhas := hide (fun (w' : World) (hk : Kept (fun _ => False) w w') (k : Int) (r : Bool) (hr : decide (0 ≤ k ∧ k < n) = r) => poolhas_at w' b p0 p1 p3 p4 n (hk.blk h (fun h => h)) k r hr)
  clear h hl hi0 hz0 hs0 hb0
  go_enter Try.func33, Try.ntmps33
  go_wp2
  go_loopw [9] (fun i wr => ∃ k : Nat, i = .int .i64 k ∧ k ≤ l.length ∧ Hid (withE n ((l.map Wv.wr).take k) = 0) ∧ Kept (fun _ => False) w wr)
    (fun i _ => l.length - (intOf i).toNat)
  case atStart => exact ⟨0, rfl, Nat.zero_le _, hide rfl, Kept.refl _ _⟩
  case round =>
    obtain ⟨k, rfl, hk, HE, hkr⟩ := hrel
    by_cases hlt : k < l.length
    · obtain ⟨ga, off, rfl, c0, c1, hsa, hna⟩ := (HL.out.kept hkr).get hlt
      have hlm : k < (l.map Wv.wr).length := by simpa using hlt
      have hstep := withE_step hlm HE.out
      rw [wr_get hlt] at hstep
      have HSTEP := hide hstep
      have HSA := hide hsa
      obtain ⟨p, hp⟩ : ∃ p, p = l[k].blk := ⟨_, rfl⟩
      obtain ⟨⟨pa, pn, pc⟩, hs⟩ : ∃ s, s = l[k].s := ⟨_, rfl⟩
      have HP := hide hp
      have HS := hide hs
      rw [← hp] at c0
      rw [← hs] at c1
      simp only at c1
      have hpn : pn = l[k].B.length := by rw [← hna, ← hs]
      have HPN := hide hpn
      clear hstep hsa hna hp hs hpn
      by_cases hin : 0 ≤ p ∧ p < n
      · by_cases h64 : pn = 64
        · subst h64
          go_wp2_with (first
            | ((with_reducible refine aw_alloc (t := 68) (dst := some 6) Hi0.out Hz0.out ?_); intro w3 hw3 hk3 hz3; have Hz3 := hide hz3; clear hz3 c0 c1)
            | ((with_reducible refine aw_store (M := [.int .i64 p, .slice pa 64 pc]) Try.agg68 rfl rfl rfl (by simp [Value.oneCell']) hw3 (by simp [Value.cells]) ?_); intro w4 hw4 hk4 hz4; rw [put_whole _ _ (by simp [Value.cells])] at hw4; have HK34 := hide (hk3.trans hk4 (S := fun _ => False) (fun i hi h => by omega)); have HK4 := hide (hkr.trans HK34.out (fun _ _ h => h)); have e0 : w4.cell? ⟨wr.heap.size, 0, none⟩ = some (.int .i64 p) := hw4.cell 0; have e1 : w4.cell? ⟨wr.heap.size, 1, none⟩ = some (.slice pa 64 pc) := hw4.cell 1; have HW4 := hide hw4; clear hz4 hw3 hk3 hk4 hw4)
            | (go_at_call 28; refine (Hhas.out _ HK4.out p true (by simpa using hin)).mono ?_; rintro e w5 ⟨rfl, rfl⟩))
          have hke : Hid (withE n ((l.map Wv.wr).take (k + 1)) = 0) := hide (withE_take1 hlm HE.out (by rw [wr_get hlt]; simp only; rw [← HP.out]; exact hin) (by rw [wr_get hlt]; exact HPN.out.symm))
          go_roundw
          case rel => exact ⟨k + 1, by simp, by omega, hke, HK4.out⟩
          case measure => simp [intOf]; omega
        · go_wp2_with (first
            | ((with_reducible refine aw_alloc (t := 68) (dst := some 6) Hi0.out Hz0.out ?_); intro w3 hw3 hk3 hz3; have Hz3 := hide hz3; clear hz3 c0 c1)
            | ((with_reducible refine aw_store (M := [.int .i64 p, .slice pa pn pc]) Try.agg68 rfl rfl rfl (by simp [Value.oneCell']) hw3 (by simp [Value.cells]) ?_); intro w4 hw4 hk4 hz4; rw [put_whole _ _ (by simp [Value.cells])] at hw4; have HK34 := hide (hk3.trans hk4 (S := fun _ => False) (fun i hi h => by omega)); have HK4 := hide (hkr.trans HK34.out (fun _ _ h => h)); have e0 : w4.cell? ⟨wr.heap.size, 0, none⟩ = some (.int .i64 p) := hw4.cell 0; have e1 : w4.cell? ⟨wr.heap.size, 1, none⟩ = some (.slice pa pn pc) := hw4.cell 1; have HW4 := hide hw4; clear hz4 hw3 hk3 hk4 hw4)
            | (go_at_call 28; refine (Hhas.out _ HK4.out p true (by simpa using hin)).mono ?_; rintro e w5 ⟨rfl, rfl⟩))
          go_ret
          have he : withE n (l.map Wv.wr) = 42 := by rw [HSTEP.out, ← HP.out, if_neg (by simpa using hin), if_pos (by rw [← HPN.out]; exact h64)]
          exact ⟨by rw [he]; rfl, HK4.out⟩
      · go_wp2_with (first
          | ((with_reducible refine aw_alloc (t := 68) (dst := some 6) Hi0.out Hz0.out ?_); intro w3 hw3 hk3 hz3; have Hz3 := hide hz3; clear hz3 c0 c1)
          | ((with_reducible refine aw_store (M := [.int .i64 p, .slice pa pn pc]) Try.agg68 rfl rfl rfl (by simp [Value.oneCell']) hw3 (by simp [Value.cells]) ?_); intro w4 hw4 hk4 hz4; rw [put_whole _ _ (by simp [Value.cells])] at hw4; have HK34 := hide (hk3.trans hk4 (S := fun _ => False) (fun i hi h => by omega)); have HK4 := hide (hkr.trans HK34.out (fun _ _ h => h)); have e0 : w4.cell? ⟨wr.heap.size, 0, none⟩ = some (.int .i64 p) := hw4.cell 0; have e1 : w4.cell? ⟨wr.heap.size, 1, none⟩ = some (.slice pa pn pc) := hw4.cell 1; have HW4 := hide hw4; clear hz4 hw3 hk3 hk4 hw4)
          | (go_at_call 28; refine (Hhas.out _ HK4.out p false (by simpa using hin)).mono ?_; rintro e w5 ⟨rfl, rfl⟩))
        go_ret
        have he : withE n (l.map Wv.wr) = 41 := by rw [HSTEP.out, ← HP.out, if_pos hin]
        exact ⟨by rw [he]; rfl, HK4.out⟩
    · obtain rfl : k = l.length := by omega
      go_wp2
      go_ret
      have htk : (l.map Wv.wr).take l.length = l.map Wv.wr := List.take_of_length_le (by simp)
      rw [htk] at HE
      exact ⟨by rw [HE.out]; rfl, hkr⟩
end Go.Proofs.Ytakpkibjpjcgbaa

/-
  Put of a pool: its contract.
-/
namespace Go.Proofs.Ytakpkibjpjcgbaa
open Go.RowKit Go.Shelf
set_option linter.unusedSimpArgs false
set_option linter.unusedVariables false
set_option maxRecDepth 100000

/-- The pool with some writes put. -/
def PL.puts (l : PL) (ws : List Wr) : PL := { l with hand := putsP l.hand ws, dirty := putsP l.dirty ws }
/-- What Put leaves. -/
def PL.putE (l : PL) (ws : List Wr) : PL := if withE l.n ws = 0 then l.puts ws else l
theorem poolput_nil (w : World) (v : Value) : Calls Try.prog 14 #[.pointer none, v] w fun e w' => e = .returned (.int .i64 1) ∧ w = w' := by
  go_enter Try.func14, Try.ntmps14
  go_wp2
  go_ret
  exact ⟨rfl, rfl⟩
set_option maxHeartbeats 4000000 in
theorem poolput_at (w : World) (b db : Nat) (l : PL) (X : NSet) (h : PoolAt w b db l X) (v : Value) (ws : List Wv) (hw : ∀ w', Kept X w w' → WsAt w' v ws) (hl1 : l.hand.length + ws.length ≤ 900000) (hl2 : l.dirty.length + ws.length ≤ 900000) :
    Calls Try.prog 14 #[.pointer (some ⟨b, 0, none⟩), v] w fun e w' => e = .returned (.int .i64 (withE l.n (ws.map Wv.wr))) ∧ PStep w w' b db (l.putE (ws.map Wv.wr)) X := by
  have hw0 := hw w (Kept.refl _ _)
  obtain ⟨ao, cap0, rfl⟩ := hw0.slice
  have HW := hide hw
  have hmax : ws.length ≤ 900000 := by omega
  have HR := hide (by
    obtain ⟨ph, vh, pd, vd, hp, hx⟩ := h
    exact right_at w b _ _ _ _ l.n hp.blk _ ws hw0)
  have H0 := hide h
  obtain ⟨i0, hi0, hz0, hs0, hb0⟩ := info_parts Try.info68
  have Hi0 := hide hi0
  have Hz0 := hide hz0
  have HL1 := hide hl1
  have HL2 := hide hl2
  clear h hw hw0 hi0 hz0 hs0 hb0 hl1 hl2
  obtain ⟨ec, hec⟩ : ∃ ec, ec = withE l.n (ws.map Wv.wr) := ⟨_, rfl⟩
  rw [← hec] at HR ⊢
  have HEC := hide hec
  clear hec
  by_cases he0 : ec = 0
  · subst he0
    go_enter Try.func14, Try.ntmps14
    go_wp2_with (go_at_call 33; refine HR.out.mono ?_; rintro e w1 ⟨rfl, hk1⟩; have HK1 := hide hk1; clear hk1)
    go_loopw [18] (fun i wr => ∃ k : Nat, i = .int .i64 k ∧ k ≤ ws.length ∧ Hid (PStep w wr b db (l.puts ((ws.map Wv.wr).take k)) X))
      (fun i _ => ws.length - (intOf i).toNat)
    case atStart => exact ⟨0, rfl, Nat.zero_le _, hide ((PStep.refl H0.out).post HK1.out)⟩
    case round =>
      obtain ⟨k, rfl, hk, HP⟩ := hrel
      by_cases hlt : k < ws.length
      · obtain ⟨hkr, X1, hpx, hXX⟩ := HP.out
        obtain ⟨ph, vh, pd, vd, hp, hx⟩ := hpx
        obtain ⟨ga, off, rfl, c0, c1, hsa, hna⟩ := (HW.out wr hkr).get hlt
        have hlm : k < (ws.map Wv.wr).length := by simpa using hlt
        have hall : withE l.n ((ws.map Wv.wr).drop k) = 0 := by
          have h1 := withE_append l.n ((ws.map Wv.wr).take k) ((ws.map Wv.wr).drop k)
          rw [List.take_append_drop, ← HEC.out] at h1
          split at h1
          · exact h1.symm
          · rename_i h2; exact absurd h1.symm h2
        rw [List.drop_eq_getElem_cons hlm] at hall
        obtain ⟨m, hm1, hm2, hm3, -⟩ := withE_cons hall
        rw [wr_get hlt] at hm1 hm3
        simp only at hm1 hm3
        obtain ⟨⟨pa, pn, pc⟩, hs⟩ : ∃ s, s = ws[k].s := ⟨_, rfl⟩
        rw [hm1] at c0
        rw [← hs] at c1
        simp only at c1
        have hpn : pn = 64 := by rw [← hs] at hna; simpa [hm3] using hna
        subst hpn
        have HPI := hide hp
        have HX := hide hx
        have HXX := hide hXX
        have HKR := hide hkr
        have HS := hide hs
        have HM1 := hide hm1
        have HM3 := hide hm3
        have HLT := hide hsa.lt
        have hl1 := putsP_len l.hand ((ws.map Wv.wr).take k)
        have hl2 := putsP_len l.dirty ((ws.map Wv.wr).take k)
        rw [List.length_take, List.length_map] at hl1 hl2
        have HB1 : Hid ((l.puts ((ws.map Wv.wr).take k)).hand.length ≤ 1000000) := hide (by show (putsP l.hand _).length ≤ _; have := HL1.out; omega)
        have HB2 : Hid ((l.puts ((ws.map Wv.wr).take k)).dirty.length ≤ 1000000) := hide (by show (putsP l.dirty _).length ≤ _; have := HL2.out; omega)
        obtain ⟨lk, hlk⟩ : ∃ lk, lk = l.puts ((ws.map Wv.wr).take k) := ⟨_, rfl⟩
        rw [← hlk] at HPI HB1 HB2
        have HLK := hide hlk
        obtain ⟨A, hA⟩ : ∃ A, A = ws[k].B := ⟨_, rfl⟩
        rw [← hA] at HM3 HLT
        have HA := hide hA
        obtain ⟨x, hxk⟩ : ∃ x, x = mkBk A := ⟨_, rfl⟩
        have HXB : Hid (x.B = A) := hide (by rw [hxk]; exact mkBk_B HM3.out HLT.out)
        have HXK := hide hxk
        clear hall hm1 hm3 hsa hna hs hp hx hXX hkr hlk hl1 hl2 hA hxk
        go_wp2_with (first
          | ((with_reducible refine aw_alloc (t := 68) (dst := some 7) Hi0.out Hz0.out ?_); intro w3 hw3 hk3 hz3; have Hz3 := hide hz3; clear hz3 c0 c1)
          | ((with_reducible refine aw_store (M := [.int .i64 (m : Int), .slice pa 64 pc]) Try.agg68 rfl rfl rfl (by simp [Value.oneCell']) hw3 (by simp [Value.cells]) ?_); intro w4 hw4 hk4 hz4; rw [put_whole _ _ (by simp [Value.cells])] at hw4; have HK34 := hide (hk3.trans hk4 (S := fun _ => False) (fun i hi h => by omega)); have HW4 := hide hw4; clear hz4 hw3 hk3 hk4 hw4))
        refine region_tail 10 Try.mixed (by kernel_rfl) ?_
        intro w5 hk5 hz5
        simp only [List.take_succ_cons, List.take_zero, List.drop_succ_cons, List.drop_zero]
        have HK5 := hide (HK34.out.trans hk5 (fun _ _ h => h))
        have HW5 := hide (hk5.blk HW4.out (fun h => h))
        clear hk5 hz5
        have HP5 := hide (HPI.out.kept HK5.out (fun _ _ h => h))
        have f0 : w5.cell? ⟨wr.heap.size, 0, none⟩ = some (.int .i64 m) := HW5.out.cell 0
        have f1 : w5.cell? ⟨wr.heap.size, 1, none⟩ = some (.slice pa 64 pc) := HW5.out.cell 1
        have f2 : w5.cell? ⟨b, 3, none⟩ = some (.pointer (some ⟨ph, 0, none⟩)) := HP5.out.blk.cell 3
        have hs5 := ((HW.out _ (HKR.out.trans HK5.out (fun _ _ h => h.elim))).get hlt).choose_spec.choose_spec.2.2.2.1
        rw [← HS.out, ← HA.out] at hs5
        obtain ⟨bo, cap2, e, hs1, hs2, hs3, hs4⟩ := hs5
        simp only [Value.slice.injEq] at e
        obtain ⟨rfl, e2, rfl⟩ := e
        obtain ⟨sb, so, rfl, hcell⟩ := hs3 (by omega)
        have HCELL := hide hcell
        clear e2 hs1 hs2 hs3 hs4 hcell
        still_step
        still_step
        still_step
        still_step
        still_step
        still_step
        still_step
        still_step
        refine wpStill_run rfl (run_arr79 rfl (Nat.le_refl _)) ?_
        refine wpStill_run rfl (run_load_cells Try.agg79 rfl (by rw [BV_length]; exact HM3.out) HCELL.out) ?_
        refine wpStill_nil ?_
        simp only [put_lit, put_none, List.set_cons_succ, List.set_cons_zero]
        have HC1 := hide (put_atP w5 ph vh lk.hand m x HP5.out.hm HB1.out)
        rw [HXB.out] at HC1
        clear f0 f1 f2
        go_wp2_with fail
        refine HC1.out.mono ?_
        rintro e w6 ⟨rfl, hs6⟩
        obtain ⟨vh', hp6, hk6, hf6⟩ := HP5.out.handS hs6
        have HP6 := hide hp6
        have HK6 := hide hk6
        have HF6 := hide hf6
        have hbX : ∀ k, footP b ph vh pd vd k → X k ∨ w.heap.size ≤ k := fun k hk => HXX.out k ((HX.out k).2 hk)
        have hk06 : Kept X w w6 := (HKR.out.trans HK5.out (fun _ _ h => h.elim)).trans hk6 (fun j hj h => (hbX j h).elim id (fun h => by omega))
        have HK06 := hide hk06
        have hk26 : Kept (footP b ph vh pd vd) wr w6 := (HK5.out.mono (fun _ _ h => h.elim)).trans hk6 (fun _ _ h => h)
        have hwn : ¬ footP b ph vh pd vd wr.heap.size := fun h => by
          have := PoolAt.lt (w := wr) (b := b) (db := db) (l := lk) (X := footP b ph vh pd vd) ⟨ph, vh, pd, vd, HPI.out, fun _ => Iff.rfl⟩ _ h
          omega
        have HW6 := hide (hk6.blk HW5.out hwn)
        clear hs6 hp6 hk6 hf6 hk06 hk26 hwn hbX HCELL
        simp only [put_lit, put_none, List.set_cons_succ, List.set_cons_zero]
        go_wp2
        refine region_tail 10 Try.mixed (by kernel_rfl) ?_
        intro w7 hk7 hz7
        simp only [List.take_succ_cons, List.take_zero, List.drop_succ_cons, List.drop_zero]
        have HK7 := hide hk7
        have HW7 := hide (hk7.blk HW6.out (fun h => h))
        have HP7 := hide (HP6.out.kept hk7 (fun _ _ h => h))
        clear hk7 hz7
        have f0 : w7.cell? ⟨wr.heap.size, 0, none⟩ = some (.int .i64 m) := HW7.out.cell 0
        have f1 : w7.cell? ⟨wr.heap.size, 1, none⟩ = some (.slice (some ⟨sb, so, none⟩) 64 pc) := HW7.out.cell 1
        have f2 : w7.cell? ⟨b, 4, none⟩ = some (.pointer (some ⟨pd, 0, none⟩)) := HP7.out.blk.cell 4
        have hs7 := ((HW.out _ (HK06.out.trans HK7.out (fun _ _ h => h.elim))).get hlt).choose_spec.choose_spec.2.2.2.1
        rw [← HS.out, ← HA.out] at hs7
        obtain ⟨bo, cap2, e, hs1, hs2, hs3, hs4⟩ := hs7
        simp only [Value.slice.injEq] at e
        obtain ⟨e1, e2, -⟩ := e
        obtain ⟨sb', so', e3, hcell⟩ := hs3 (by omega)
        rw [e3] at e1
        simp only [Option.some.injEq, Addr.mk.injEq, and_true] at e1
        obtain ⟨rfl, rfl⟩ := e1
        have HCELL := hide hcell
        clear e2 e3 hs1 hs2 hs3 hs4 hcell
        still_step
        still_step
        still_step
        still_step
        still_step
        still_step
        still_step
        still_step
        refine wpStill_run rfl (run_arr79 rfl (Nat.le_refl _)) ?_
        refine wpStill_run rfl (run_load_cells Try.agg79 rfl (by rw [BV_length]; exact HM3.out) HCELL.out) ?_
        refine wpStill_nil ?_
        simp only [put_lit, put_none, List.set_cons_succ, List.set_cons_zero]
        have HC2 := hide (put_atP w7 pd vd lk.dirty m x HP7.out.dm HB2.out)
        rw [HXB.out] at HC2
        clear f0 f1 f2
        go_wp2_with fail
        refine HC2.out.mono ?_
        rintro e w8 ⟨rfl, hs8⟩
        obtain ⟨vd', hp8, hk8, hf8⟩ := HP7.out.dirtyS hs8
        have HFIN : Hid (PStep w w8 b db (l.puts ((ws.map Wv.wr).take (k + 1))) X) := hide (by
          have s5 := HK5.out.size
          have s6 := HK6.out.size
          have s7 := HK7.out.size
          have sr := HKR.out.size
          have hst : ∀ k, footP b ph vh' pd vd k → X k ∨ w.heap.size ≤ k := fun k hk => by
            rcases HF6.out k hk with h | h
            · exact HXX.out k ((HX.out k).2 h)
            · exact .inr (by omega)
          refine ⟨(HK06.out.trans HK7.out (fun _ _ h => h.elim)).trans hk8 (fun j hj h => (hst j h).elim id (fun h => by omega)), footP b ph vh' pd vd', ⟨ph, vh', pd, vd', ?_, fun _ => Iff.rfl⟩, ?_⟩
          · have e : l.puts ((ws.map Wv.wr).take (k + 1)) = { lk with hand := putK ltI lk.hand m x, dirty := putK ltI lk.dirty m x } := by
              rw [HLK.out]
              unfold PL.puts
              rw [putsP_take1 hlm, putsP_take1 hlm, wr_get hlt, HXK.out, HA.out]
              simp only [HM1.out]
            rw [e]
            exact hp8
          · intro k hk
            rcases hf8 k hk with h | h
            · exact hst k h
            · exact .inr (by omega))
        clear hs8 hp8 hk8 hf8
        simp only [put_lit, put_none, List.set_cons_succ, List.set_cons_zero]
        go_wp2
        go_roundw
        case rel => exact ⟨k + 1, by simp, by omega, HFIN⟩
        case measure => simp [intOf]; omega
      · obtain rfl : k = ws.length := by omega
        go_wp2
        go_ret
        have htk : (ws.map Wv.wr).take ws.length = ws.map Wv.wr := List.take_of_length_le (by simp)
        rw [htk] at HP
        refine ⟨rfl, ?_⟩
        unfold PL.putE
        rw [if_pos HEC.out.symm]
        exact HP.out
  · have hcs := withE_cases l.n (ws.map Wv.wr)
    rw [← HEC.out] at hcs
    have HPE : Hid (l.putE (ws.map Wv.wr) = l) := hide (by unfold PL.putE; rw [if_neg (by rw [← HEC.out]; exact he0)])
    rcases hcs with h | rfl | rfl
    · exact absurd h he0
    · go_enter Try.func14, Try.ntmps14
      go_wp2_with (go_at_call 33; refine HR.out.mono ?_; rintro e w1 ⟨rfl, hk1⟩; have HK1 := hide hk1; clear hk1)
      go_ret
      exact ⟨rfl, by rw [HPE.out]; exact (PStep.refl H0.out).post HK1.out⟩
    · go_enter Try.func14, Try.ntmps14
      go_wp2_with (go_at_call 33; refine HR.out.mono ?_; rintro e w1 ⟨rfl, hk1⟩; have HK1 := hide hk1; clear hk1)
      go_ret
      exact ⟨rfl, by rw [HPE.out]; exact (PStep.refl H0.out).post HK1.out⟩
end Go.Proofs.Ytakpkibjpjcgbaa
