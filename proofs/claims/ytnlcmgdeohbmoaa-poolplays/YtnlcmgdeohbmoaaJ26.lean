/-
  Pools in memory; has, Drop, Dirty.
-/
import Derived.Test.YtnlcmgdeohbmoaaJ15
import Derived.Test.YtnlcmgdeohbmoaaJ18
import Derived.Test.YtnlcmgdeohbmoaaJ25
namespace Go.Proofs.Ytnlcmgdeohbmoaa
open Go.RowKit Go.Shelf
set_option linter.unusedSimpArgs false
set_option linter.unusedVariables false
set_option maxRecDepth 100000

/-- A pool's numbers, and its two orders. -/
structure PL where
  fr : Nat
  n : Nat
  hand : List EntP
  dirty : List EntP
/-- A pool lies at b, over the device at db; X: the blocks it stands on. -/
structure PoolIs (w : World) (b db : Nat) (l : PL) (ph : Nat) (vh : Value) (pd : Nat) (vd : Value) : Prop where
  blk : Blk w b [.pointer (some ⟨db, 0, none⟩), .int .i64 l.fr, .int .i64 l.n, .pointer (some ⟨ph, 0, none⟩), .pointer (some ⟨pd, 0, none⟩)] 76
  hm : MapP w ph vh l.hand
  dm : MapP w pd vd l.dirty
  ap : ∀ k, footM ph vh k → ¬ footM pd vd k
def footP (b ph : Nat) (vh : Value) (pd : Nat) (vd : Value) (k : Nat) : Prop := k = b ∨ footM ph vh k ∨ footM pd vd k
def PoolAt (w : World) (b db : Nat) (l : PL) (X : NSet) : Prop := ∃ ph vh pd vd, PoolIs w b db l ph vh pd vd ∧ ∀ k, X k ↔ footP b ph vh pd vd k
def PStep (w w' : World) (b db : Nat) (l : PL) (X : NSet) : Prop := Kept X w w' ∧ ∃ X', PoolAt w' b db l X' ∧ ∀ k, X' k → X k ∨ w.heap.size ≤ k
section
variable {w w' : World} {b db : Nat} {l : PL} {ph pd : Nat} {vh vd : Value} {X S : NSet}
theorem MapP.ne_own {v : Value} {p : Nat} {l : List EntP} (h : MapP w p v l) {L : List Value} {t : TypeId} (hb : Blk w b L t) (ht : t ≠ 112) (ht2 : t ≠ 109) : ¬ footM p v b := by
  rintro (e | e)
  · subst e; exact ht (hb.same h.blk).2
  · exact ownsRow_blk_ne h.own hb ht2 e
theorem PoolIs.kept (h : PoolIs w b db l ph vh pd vd) (hk : Kept S w w') (hS : ∀ k, footP b ph vh pd vd k → ¬ S k) : PoolIs w' b db l ph vh pd vd :=
  ⟨hk.blk h.blk (hS _ (.inl rfl)), h.hm.kept hk (hS _ (.inr (.inl (.inl rfl)))) (fun k hk => hS _ (.inr (.inl (.inr hk)))), h.dm.kept hk (hS _ (.inr (.inr (.inl rfl)))) (fun k hk => hS _ (.inr (.inr (.inr hk)))), h.ap⟩
theorem PoolAt.kept (h : PoolAt w b db l X) (hk : Kept S w w') (hS : ∀ k, X k → ¬ S k) : PoolAt w' b db l X := by
  obtain ⟨ph, vh, pd, vd, h, hx⟩ := h
  exact ⟨ph, vh, pd, vd, h.kept hk (fun k hk => hS k ((hx k).2 hk)), hx⟩
theorem MapP.lt {v : Value} {p : Nat} {l : List EntP} (h : MapP w p v l) {k : Nat} (hk : footM p v k) : k < w.heap.size := by
  rcases hk with rfl | hk
  · exact h.blk.lt
  · exact ownsRow_lt h.own k hk
theorem PoolAt.lt (h : PoolAt w b db l X) : ∀ k, X k → k < w.heap.size := by
  obtain ⟨ph, vh, pd, vd, h, hx⟩ := h
  intro k hk
  rcases (hx k).1 hk with rfl | hk | hk
  · exact h.blk.lt
  · exact h.hm.lt hk
  · exact h.dm.lt hk
theorem PoolIs.nb (h : PoolIs w b db l ph vh pd vd) : ¬ footM ph vh b ∧ ¬ footM pd vd b := ⟨h.hm.ne_own h.blk (by decide) (by decide), h.dm.ne_own h.blk (by decide) (by decide)⟩
theorem PStep.refl (h : PoolAt w b db l X) : PStep w w b db l X := ⟨Kept.refl _ _, X, h, fun _ h => .inl h⟩
theorem PStep.pre {w0 : World} (hk : Kept (fun _ => False) w0 w) (h : PStep w w' b db l X) : PStep w0 w' b db l X := by
  obtain ⟨h1, X', h2, h3⟩ := h
  exact ⟨(hk.mono (fun _ _ h => h.elim)).trans h1 (fun _ _ h => h), X', h2, fun k hk' => (h3 k hk').imp id (fun h => Nat.le_trans hk.size h)⟩
theorem PStep.post {w1 : World} (h : PStep w w' b db l X) (hk : Kept (fun _ => False) w' w1) : PStep w w1 b db l X := by
  obtain ⟨h1, X', h2, h3⟩ := h
  exact ⟨h1.trans hk (fun _ _ h => h.elim), X', h2.kept hk (fun _ _ h => h), h3⟩
end
theorem poolhas_at (w : World) (b : Nat) (p0 p1 p3 p4 : Value) (n : Nat) (h : Blk w b [p0, p1, .int .i64 n, p3, p4] 76) (k : Int) (r : Bool) (hr : decide (0 ≤ k ∧ k < n) = r) : Calls Try.prog 28 #[.pointer (some ⟨b, 0, none⟩), .int .i64 k] w fun e w' => e = .returned (.bool r) ∧ w = w' := by
  have c2 : w.cell? ⟨b, 2, none⟩ = some (.int .i64 n) := h.cell 2
  have HR := hide hr
  clear h hr
  by_cases h0 : 0 ≤ k
  · by_cases h1 : k < n
    · go_enter Try.func28, Try.ntmps28
      go_wp2
      go_ret
      exact ⟨by rw [← HR.out]; simp [h0, h1], rfl⟩
    · go_enter Try.func28, Try.ntmps28
      go_wp2
      go_ret
      exact ⟨by rw [← HR.out]; simp; omega, rfl⟩
  · go_enter Try.func28, Try.ntmps28
    go_wp2
    go_ret
    exact ⟨by rw [← HR.out]; simp; omega, rfl⟩
theorem drop_nil (w : World) : Calls Try.prog 13 #[.pointer none] w fun e w' => e = .returned (.tuple #[]) ∧ w = w' := by
  go_enter Try.func13, Try.ntmps13
  go_wp2
  refine bodyPost_ret (results_none rfl _ _ _) rfl ?_
  exact ⟨rfl, rfl⟩
/-- Two fresh orders. -/
theorem drop_core (w : World) (b db fr n : Nat) (p3 p4 : Value) (h : Blk w b [.pointer (some ⟨db, 0, none⟩), .int .i64 fr, .int .i64 n, p3, p4] 76) :
    Calls Try.prog 13 #[.pointer (some ⟨b, 0, none⟩)] w fun e w' => e = .returned (.tuple #[]) ∧ Kept (fun k => k = b) w w' ∧ ∃ X', PoolAt w' b db ⟨fr, n, [], []⟩ X' ∧ ∀ k, X' k → k = b ∨ w.heap.size ≤ k := by
  have HB := hide h
  have hbw := h.lt
  clear h
  go_enter Try.func13, Try.ntmps13
  go_wp2_with fail
  refine (new_atP w).mono ?_
  rintro e w1 ⟨rfl, hm1, hk1⟩
  have hb1 := hk1.blk HB.out (fun h => h)
  have c3 : w1.cell? ⟨b, 3, none⟩ = some p3 := hb1.cell 3
  have f3 : w1.frozen? ⟨b, 3, none⟩ = false := hb1.frozen 3
  have HB1 := hide hb1
  have HM1 := hide hm1
  have HK1 := hide hk1
  clear hb1 hm1 hk1
  go_wp2_with fail
  have hb2 := HB1.out.setCell 3 (.pointer (some ⟨w.heap.size, 0, none⟩))
  have hk2 := Kept.setCell (S := fun k => k = b) w1 ⟨b, 3, none⟩ (.pointer (some ⟨w.heap.size, 0, none⟩)) rfl
  generalize w1.setCell ⟨b, 3, none⟩ (.pointer (some ⟨w.heap.size, 0, none⟩)) = w2 at hb2 hk2 ⊢
  have HB2 := hide hb2
  have HK2 := hide hk2
  clear hb2 hk2 c3 f3
  refine (new_atP w2).mono ?_
  rintro e w3 ⟨rfl, hm3, hk3⟩
  have hb3 := hk3.blk HB2.out (fun h => h)
  have c4 : w3.cell? ⟨b, 4, none⟩ = some p4 := hb3.cell 4
  have f4 : w3.frozen? ⟨b, 4, none⟩ = false := hb3.frozen 4
  have HB3 := hide hb3
  have HM3 := hide hm3
  have HK3 := hide hk3
  clear hb3 hm3 hk3
  go_wp2
  go_end0
  have hb4 := HB3.out.setCell 4 (.pointer (some ⟨w2.heap.size, 0, none⟩))
  have hk4 := Kept.setCell (S := fun k => k = b) w3 ⟨b, 4, none⟩ (.pointer (some ⟨w2.heap.size, 0, none⟩)) rfl
  have s1 := HK1.out.size
  have s2 := HK2.out.size
  have s3 := HK3.out.size
  have l1 := HM1.out.blk.lt
  have hn1 : (Value.slice none 0 0).ownBlock = none := rfl
  have hm2 : MapP w2 w.heap.size (.slice none 0 0) [] := HM1.out.kept HK2.out (fun e => by omega) (fun k hk => by rw [hn1] at hk; cases hk)
  have hm4 : MapP _ w.heap.size (.slice none 0 0) [] := (hm2.kept HK3.out (fun h => h) (fun _ _ h => h)).kept hk4 (fun e => by omega) (fun k hk => by rw [hn1] at hk; cases hk)
  have hd4 : MapP _ w2.heap.size (.slice none 0 0) [] := HM3.out.kept hk4 (fun e => by omega) (fun k hk => by rw [hn1] at hk; cases hk)
  refine ⟨rfl, ?_, _, ⟨_, _, _, _, ⟨hb4, hm4, hd4, ?_⟩, fun _ => Iff.rfl⟩, ?_⟩
  · exact (((HK1.out.mono (T := fun k => k = b) (fun _ _ h => h.elim)).trans HK2.out (fun _ _ h => h)).trans HK3.out (fun _ _ h => h.elim)).trans hk4 (fun _ _ h => h)
  · rintro k (rfl | h) (h2 | h2)
    · omega
    · rw [hn1] at h2; cases h2
    · rw [hn1] at h; cases h
    · rw [hn1] at h; cases h
  · rintro k (rfl | (rfl | h) | (rfl | h))
    · exact .inl rfl
    · exact .inr (Nat.le_refl _)
    · rw [hn1] at h; cases h
    · exact .inr (by omega)
    · rw [hn1] at h; cases h
theorem drop_at (w : World) (b db : Nat) (l : PL) (X : NSet) (h : PoolAt w b db l X) :
    Calls Try.prog 13 #[.pointer (some ⟨b, 0, none⟩)] w fun e w' => e = .returned (.tuple #[]) ∧ PStep w w' b db ⟨l.fr, l.n, [], []⟩ X := by
  obtain ⟨ph, vh, pd, vd, h, hx⟩ := h
  refine (drop_core w b db l.fr l.n _ _ h.blk).mono ?_
  rintro e w' ⟨rfl, hk, X', hp, hX⟩
  exact ⟨rfl, hk.mono (fun k _ e => (hx k).2 (.inl e)), X', hp, fun k hk => (hX k hk).imp (fun e => (hx k).2 (.inl e)) id⟩
theorem dirty_nil (w : World) : Calls Try.prog 16 #[.pointer none] w fun e w' => e = .returned (.slice none 0 0) ∧ w = w' := by
  go_enter Try.func16, Try.ntmps16
  go_wp2
  go_ret
  exact ⟨rfl, rfl⟩
theorem dirty_at (w : World) (b db : Nat) (l : PL) (X : NSet) (h : PoolAt w b db l X) (hl : l.dirty.length ≤ 1000000) :
    Calls Try.prog 16 #[.pointer (some ⟨b, 0, none⟩)] w fun e w' => ∃ kv, e = .returned kv ∧ w'.ownsRow 0 3 1 kv l.dirty.length (l.dirty.map fun x => (Value.int .i64 (x.1))) ∧ Kept (fun _ => False) w w' := by
  obtain ⟨ph, vh, pd, vd, h, hx⟩ := h
  have c4 : w.cell? ⟨b, 4, none⟩ = some (.pointer (some ⟨pd, 0, none⟩)) := h.blk.cell 4
  have HK := hide (keys_atP w pd vd l.dirty h.dm hl)
  clear h hx hl
  go_enter Try.func16, Try.ntmps16
  go_wp2_with fail
  refine HK.out.mono ?_
  rintro e w1 ⟨kv, rfl, ho, hk⟩
  have HO := hide ho
  have HK1 := hide hk
  clear ho hk
  go_wp2
  go_ret
  exact ⟨_, rfl, HO.out, HK1.out⟩
end Go.Proofs.Ytnlcmgdeohbmoaa

/-
  Put of a pool.
-/
namespace Go.Proofs.Ytnlcmgdeohbmoaa
open Go.RowKit Go.Shelf
set_option linter.unusedSimpArgs false
set_option linter.unusedVariables false
set_option maxRecDepth 100000

/-- 64 bytes as a block; else noughts. -/
def mkBk (B : List Nat) : Bk := if h : B.length = 64 ∧ ∀ x ∈ B, x < 256 then ⟨B, h.1, h.2⟩ else ⟨List.replicate 64 0, by simp, by simp⟩
theorem mkBk_B {B : List Nat} (h : B.length = 64) (h2 : ∀ x ∈ B, x < 256) : (mkBk B).B = B := by
  unfold mkBk
  rw [dif_pos ⟨h, h2⟩]
/-- Some writes are put. -/
def putsP (l : List EntP) (ws : List Wr) : List EntP := ws.foldl (fun l x => putK ltI l x.blk (mkBk x.B)) l
theorem putsP_take1 {l : List EntP} {ws : List Wr} {k : Nat} (h : k < ws.length) : putsP l (ws.take (k + 1)) = putK ltI (putsP l (ws.take k)) ws[k].blk (mkBk ws[k].B) := by
  unfold putsP
  rw [List.take_succ_eq_append_getElem h, List.foldl_append]
  rfl
theorem putsP_len (l : List EntP) : ∀ (ws : List Wr), (putsP l ws).length ≤ l.length + ws.length := by
  intro ws
  induction ws generalizing l with
  | nil => simp [putsP]
  | cons w ws ih =>
    have h := (putK_length ltI l w.blk (mkBk w.B)).1
    have h2 := ih (putK ltI l w.blk (mkBk w.B))
    have e : putsP l (w :: ws) = putsP (putK ltI l w.blk (mkBk w.B)) ws := rfl
    rw [e, List.length_cons]
    omega
theorem Try.und79 : Try.prog.underlying 79 = some (.array 64 5) := by kernel_rfl
theorem run_arr79 {ρ : Operand → Value} {w : World} {dst : Option Tmp} {ty : TypeId} {x : Operand} {pos : String} {aft : Array Edge} {gd : Option (Nat × Bool)} {a : Option Addr} {n c : Nat} (hx : ρ x = .slice a n c) (hn : 64 ≤ n) :
    (execOp ρ ⟨dst, .sliceToArrayPointer 79 x, ty, pos, aft, gd⟩).run Try.prog w = .ok (.value (.pointer a)) w := by
  have h : ¬ n < 64 := by omega
  simp [execOp, hx, Instr.arrayAt, run_underlying Try.und79, h]
theorem run_slice79 {ρ : Operand → Value} {w : World} {dst : Option Tmp} {ty : TypeId} {x : Operand} {pos : String} {aft : Array Edge} {gd : Option (Nat × Bool)} {b off : Nat} (hx : ρ x = .pointer (some ⟨b, off, none⟩)) :
    (execOp ρ ⟨dst, .slice 79 x none none none, ty, pos, aft, gd⟩).run Try.prog w = .ok (.value (.slice (some ⟨b, off, none⟩) 64 64)) w := by
  obtain ⟨i0, hi0, hz0, hs0, hb0⟩ := info_parts Try.info5
  simp [execOp, hx, Instr.sliceAt, run_underlying Try.und79, Instr.sureAddr, Instr.sliceBounds, Instr.sliceBound, sizeOf, typeInfo, hi0, hs0, addr_add]

section
variable {w w' : World} {b db : Nat} {l : PL} {ph pd : Nat} {vh vd : Value}
theorem PoolIs.handS (h : PoolIs w b db l ph vh pd vd) {L : List EntP} (hs : StepP w w' ph vh L) : ∃ vh', PoolIs w' b db { l with hand := L } ph vh' pd vd ∧ Kept (footP b ph vh pd vd) w w' ∧ ∀ k, footP b ph vh' pd vd k → footP b ph vh pd vd k ∨ w.heap.size ≤ k := by
  obtain ⟨vh', hm, hk, hf⟩ := hs
  refine ⟨vh', ⟨hk.blk h.blk h.nb.1, hm, h.dm.kept hk (fun e => h.ap _ e (.inl rfl)) (fun k hk e => h.ap _ e (.inr hk)), ?_⟩, hk.mono (fun k _ h => .inr (.inl h)), ?_⟩
  · intro k hk1 hk2
    rcases hf k hk1 with h1 | h1
    · exact h.ap k h1 hk2
    · have := h.dm.lt hk2; omega
  · rintro k (h1 | h1 | h1)
    · exact .inl (.inl h1)
    · exact (hf k h1).imp (fun h => .inr (.inl h)) id
    · exact .inl (.inr (.inr h1))
theorem PoolIs.dirtyS (h : PoolIs w b db l ph vh pd vd) {L : List EntP} (hs : StepP w w' pd vd L) : ∃ vd', PoolIs w' b db { l with dirty := L } ph vh pd vd' ∧ Kept (footP b ph vh pd vd) w w' ∧ ∀ k, footP b ph vh pd vd' k → footP b ph vh pd vd k ∨ w.heap.size ≤ k := by
  obtain ⟨vd', hm, hk, hf⟩ := hs
  refine ⟨vd', ⟨hk.blk h.blk h.nb.2, h.hm.kept hk (fun e => h.ap _ (.inl rfl) e) (fun k hk e => h.ap _ (.inr hk) e), hm, ?_⟩, hk.mono (fun k _ h => .inr (.inr h)), ?_⟩
  · intro k hk1 hk2
    rcases hf k hk2 with h1 | h1
    · exact h.ap k hk1 h1
    · have := h.hm.lt hk1; omega
  · rintro k (h1 | h1 | h1)
    · exact .inl (.inl h1)
    · exact .inl (.inr (.inl h1))
    · exact (hf k h1).imp (fun h => .inr (.inr h)) id
end

set_option maxHeartbeats 4000000 in
theorem right_at (w : World) (b : Nat) (p0 p1 p3 p4 : Value) (n : Nat) (h : Blk w b [p0, p1, .int .i64 n, p3, p4] 76) (v : Value) (l : List Wv) (hl : WsAt w v l) :
    Calls Try.prog 33 #[.pointer (some ⟨b, 0, none⟩), v] w fun e w' => e = .returned (.int .i64 (withE n (l.map Wv.wr))) ∧ Kept (fun _ => False) w w' := by
  obtain ⟨ao, cap0, rfl⟩ := hl.slice
  have HL := hide hl
  have hmax := hl.2.2
  obtain ⟨i0, hi0, hz0, hs0, hb0⟩ := info_parts Try.info68
  have Hi0 := hide hi0
  have Hz0 := hide hz0
  have Hhas := hide (fun (w' : World) (hk : Kept (fun _ => False) w w') (k : Int) (r : Bool) (hr : decide (0 ≤ k ∧ k < n) = r) => poolhas_at w' b p0 p1 p3 p4 n (hk.blk h (fun h => h)) k r hr)
  clear h hl hi0 hz0 hs0 hb0
  go_enter Try.func33, Try.ntmps33
  go_wp2
  go_loopw [9] (fun i wr => ∃ k : Nat, i = .int .i64 k ∧ k ≤ l.length ∧ Hid (withE n ((l.map Wv.wr).take k) = 0) ∧ Kept (fun _ => False) w wr)
    (fun i _ => l.length - (intOf i).toNat)
  case atStart => exact ⟨0, rfl, Nat.zero_le _, hide rfl, Kept.refl _ _⟩
  case round =>
    obtain ⟨k, rfl, hk, HE, hkr⟩ := hrel
    by_cases hlt : k < l.length
    · obtain ⟨ga, off, rfl, c0, c1, hsa, hna⟩ := (HL.out.kept hkr).get hlt
      have hlm : k < (l.map Wv.wr).length := by simpa using hlt
      have hstep := withE_step hlm HE.out
      rw [wr_get hlt] at hstep
      have HSTEP := hide hstep
      have HSA := hide hsa
      obtain ⟨p, hp⟩ : ∃ p, p = l[k].blk := ⟨_, rfl⟩
      obtain ⟨⟨pa, pn, pc⟩, hs⟩ : ∃ s, s = l[k].s := ⟨_, rfl⟩
      have HP := hide hp
      have HS := hide hs
      rw [← hp] at c0
      rw [← hs] at c1
      simp only at c1
      have hpn : pn = l[k].B.length := by rw [← hna, ← hs]
      have HPN := hide hpn
      clear hstep hsa hna hp hs hpn
      by_cases hin : 0 ≤ p ∧ p < n
      · by_cases h64 : pn = 64
        · subst h64
          go_wp2_with (first
            | ((with_reducible refine aw_alloc (t := 68) (dst := some 6) Hi0.out Hz0.out ?_); intro w3 hw3 hk3 hz3; have Hz3 := hide hz3; clear hz3 c0 c1)
            | ((with_reducible refine aw_store (M := [.int .i64 p, .slice pa 64 pc]) Try.agg68 rfl rfl rfl (by simp [Value.oneCell']) hw3 (by simp [Value.cells]) ?_); intro w4 hw4 hk4 hz4; rw [put_whole _ _ (by simp [Value.cells])] at hw4; have HK34 := hide (hk3.trans hk4 (S := fun _ => False) (fun i hi h => by omega)); have HK4 := hide (hkr.trans HK34.out (fun _ _ h => h)); have e0 : w4.cell? ⟨wr.heap.size, 0, none⟩ = some (.int .i64 p) := hw4.cell 0; have e1 : w4.cell? ⟨wr.heap.size, 1, none⟩ = some (.slice pa 64 pc) := hw4.cell 1; have HW4 := hide hw4; clear hz4 hw3 hk3 hk4 hw4)
            | (go_at_call 28; refine (Hhas.out _ HK4.out p true (by simpa using hin)).mono ?_; rintro e w5 ⟨rfl, rfl⟩))
          have hke : Hid (withE n ((l.map Wv.wr).take (k + 1)) = 0) := hide (withE_take1 hlm HE.out (by rw [wr_get hlt]; simp only; rw [← HP.out]; exact hin) (by rw [wr_get hlt]; exact HPN.out.symm))
          go_roundw
          case rel => exact ⟨k + 1, by simp, by omega, hke, HK4.out⟩
          case measure => simp [intOf]; omega
        · go_wp2_with (first
            | ((with_reducible refine aw_alloc (t := 68) (dst := some 6) Hi0.out Hz0.out ?_); intro w3 hw3 hk3 hz3; have Hz3 := hide hz3; clear hz3 c0 c1)
            | ((with_reducible refine aw_store (M := [.int .i64 p, .slice pa pn pc]) Try.agg68 rfl rfl rfl (by simp [Value.oneCell']) hw3 (by simp [Value.cells]) ?_); intro w4 hw4 hk4 hz4; rw [put_whole _ _ (by simp [Value.cells])] at hw4; have HK34 := hide (hk3.trans hk4 (S := fun _ => False) (fun i hi h => by omega)); have HK4 := hide (hkr.trans HK34.out (fun _ _ h => h)); have e0 : w4.cell? ⟨wr.heap.size, 0, none⟩ = some (.int .i64 p) := hw4.cell 0; have e1 : w4.cell? ⟨wr.heap.size, 1, none⟩ = some (.slice pa pn pc) := hw4.cell 1; have HW4 := hide hw4; clear hz4 hw3 hk3 hk4 hw4)
            | (go_at_call 28; refine (Hhas.out _ HK4.out p true (by simpa using hin)).mono ?_; rintro e w5 ⟨rfl, rfl⟩))
          go_ret
          have he : withE n (l.map Wv.wr) = 42 := by rw [HSTEP.out, ← HP.out, if_neg (by simpa using hin), if_pos (by rw [← HPN.out]; exact h64)]
          exact ⟨by rw [he]; rfl, HK4.out⟩
      · go_wp2_with (first
          | ((with_reducible refine aw_alloc (t := 68) (dst := some 6) Hi0.out Hz0.out ?_); intro w3 hw3 hk3 hz3; have Hz3 := hide hz3; clear hz3 c0 c1)
          | ((with_reducible refine aw_store (M := [.int .i64 p, .slice pa pn pc]) Try.agg68 rfl rfl rfl (by simp [Value.oneCell']) hw3 (by simp [Value.cells]) ?_); intro w4 hw4 hk4 hz4; rw [put_whole _ _ (by simp [Value.cells])] at hw4; have HK34 := hide (hk3.trans hk4 (S := fun _ => False) (fun i hi h => by omega)); have HK4 := hide (hkr.trans HK34.out (fun _ _ h => h)); have e0 : w4.cell? ⟨wr.heap.size, 0, none⟩ = some (.int .i64 p) := hw4.cell 0; have e1 : w4.cell? ⟨wr.heap.size, 1, none⟩ = some (.slice pa pn pc) := hw4.cell 1; have HW4 := hide hw4; clear hz4 hw3 hk3 hk4 hw4)
          | (go_at_call 28; refine (Hhas.out _ HK4.out p false (by simpa using hin)).mono ?_; rintro e w5 ⟨rfl, rfl⟩))
        go_ret
        have he : withE n (l.map Wv.wr) = 41 := by rw [HSTEP.out, ← HP.out, if_pos hin]
        exact ⟨by rw [he]; rfl, HK4.out⟩
    · obtain rfl : k = l.length := by omega
      go_wp2
      go_ret
      have htk : (l.map Wv.wr).take l.length = l.map Wv.wr := List.take_of_length_le (by simp)
      rw [htk] at HE
      exact ⟨by rw [HE.out]; rfl, hkr⟩
end Go.Proofs.Ytnlcmgdeohbmoaa
