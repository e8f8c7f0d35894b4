/-
  The walk of PackReads: it answers true, and touches nothing that was there.
-/
import Derived.Test.YteffiglfeenokaaPRefT
namespace Go.Proofs.Yteffiglfeenokaa
open Go.RowKit Go.Shelf
set_option linter.unusedSimpArgs false
set_option linter.unusedVariables false

theorem RefAt.nobyte {w : World} {x : Nat} {B : List Nat} {E : Int} (h : RefAt w x B E) : ∀ k, k = x → ∀ i n, w.cell? ⟨k, i, none⟩ ≠ some (.int .u8 n) := by
  intro k hk i n e
  subst hk
  rw [Blk.cell h] at e
  match i with
  | 0 => simp at e
  | 1 => simp at e
  | i + 2 => simp at e
/-- A scan, and the reference's. -/
structure Rd (w0 w : World) (s x : Nat) (v : Value) (B : List Nat) (E : Int) : Prop where
  lowS : w0.heap.size ≤ s
  lowX : w0.heap.size ≤ x
  kept : Kept (fun _ => False) w0 w
  scan : ScanAt w s v B E
  ref : RefAt w x B E
theorem Rd.ne {w0 w : World} {s x : Nat} {v : Value} {B : List Nat} {E : Int} (h : Rd w0 w s x v B E) : ¬ x = s := fun e => Blk.ne h.ref h.scan.1 (by decide) e
theorem Rd.same {w0 w w' : World} {s x : Nat} {v : Value} {B : List Nat} {E : Int} (h : Rd w0 w s x v B E) (hk : Kept (fun _ => False) w w') : Rd w0 w' s x v B E :=
  ⟨h.lowS, h.lowX, h.kept.trans hk (fun _ _ h => h), h.scan.kept hk, hk.blk h.ref (fun h => h)⟩
theorem Rd.step {w0 w w1 w2 : World} {s x : Nat} {v v' : Value} {B C : List Nat} {E F : Int} (h : Rd w0 w s x v B E) (hs : ScanAt w1 s v' C F) (hk : Kept (fun k => k = s) w w1) (hr : RefAt w2 x C F) (hk2 : Kept (fun k => k = x) w1 w2) : Rd w0 w2 s x v' C F := by
  have hr1 : RefAt w1 x B E := hk.blk h.ref h.ne
  refine ⟨h.lowS, h.lowX, (h.kept.trans hk (fun i hi e => by have := h.lowS; omega)).trans hk2 (fun i hi e => by have := h.lowX; omega), ⟨hk2.blk hs.1 (fun e => h.ne e.symm), hs.2.keptBut hk2 hr1.nobyte⟩, hr⟩
section
variable {ρ : Operand → Value} {w : World} {dst : Option Tmp} {ty : TypeId} {pos : String} {aft : Array Edge} {gd : Option (Nat × Bool)} {x y z : Operand}
theorem built42 (t : ByteArray) : Try.prog.built 42 [(0, .string t)] = some #[.string t, .int .i64 0] := by rfl
theorem r_build42 {t : ByteArray} (hx : ρ x = .string t) : (execOp ρ ⟨dst, .build 42 #[(0, x)], ty, pos, aft, gd⟩).run Try.prog w = .ok (.value (.agg #[.string t, .int .i64 0])) w := by
  have hr := run_build (P := Try.prog) w 42 #[(0, .string t)] _ (by simpa using built42 t)
  simp [execOp, hx, hr]
theorem run_box42 {v : Value} (hx : ρ x = v) : (execOp ρ ⟨dst, .box 42 x, ty, pos, aft, gd⟩).run Try.prog w = .ok (.value (.pointer (some ⟨w.heap.size, 0, none⟩))) (w.alloc (.cells v.cells 42)) := by
  subst hx
  exact run_box_agg
theorem r_fld42_0 {b : Nat} (hx : ρ x = .pointer (some ⟨b, 0, none⟩)) : (execOp ρ ⟨dst, .fieldAddr 42 x 0, ty, pos, aft, gd⟩).run Try.prog w = .ok (.value (.pointer (some ⟨b, 0, none⟩))) w := by
  go_simp
theorem r_fld42_1 {b : Nat} (hx : ρ x = .pointer (some ⟨b, 0, none⟩)) : (execOp ρ ⟨dst, .fieldAddr 42 x 1, ty, pos, aft, gd⟩).run Try.prog w = .ok (.value (.pointer (some ⟨b, 1, none⟩))) w := by
  go_simp
theorem r_ld9 {b o : Nat} {v : Value} (hx : ρ x = .pointer (some ⟨b, o, none⟩)) (hc : w.cell? ⟨b, o, none⟩ = some v) : (execOp ρ ⟨dst, .load 9 x, ty, pos, aft, gd⟩).run Try.prog w = .ok (.value v) w := by
  go_simp
end

theorem reads_out (w : World) (bo : Option Addr) (bl bc : Nat) (v : Value) (hl : bl ≤ 9223372036854775807) (h : 2000 < bl) :
    Calls Try.prog 4 #[.slice bo bl bc, v] w fun e w' => e = .returned (.bool true) ∧ Kept (fun _ => False) w w' := by
  go_enter Try.func4, Try.ntmps4
  go_wp2_with fail
  refine (first_any w).mono ?_
  rintro e w1 ⟨rfl, hk1⟩
  go_wp2
  go_ret
  exact ⟨rfl, hk1⟩

set_option maxRecDepth 100000 in
set_option maxHeartbeats 16000000 in
theorem reads_any (w : World) (vb0 : Value) (Bb : List Nat) (hsb : Src w vb0 Bb) (hb2000 : Bb.length ≤ 2000) (ao : Option Addr) (len cap : Nat) (L : List OpV) (hL : L.length = len) (hlm : len ≤ 9223372036854775807) (hops : OpsAt w ao L) :
    Calls Try.prog 4 #[vb0, .slice ao len cap] w fun e w' => e = .returned (.bool true) ∧ Kept (fun _ => False) w w' := by
  obtain ⟨i29, hi29, hz29, hs29, hb29⟩ := info_parts Try.info29
  have Hi29 := hide hi29
  have Hz29 := hide hz29
  have HO := hide hops
  have HL := hide hL
  have HSb := hide hsb
  obtain ⟨bb0, bcap, e, hbl, _⟩ := hsb
  subst e
  clear hi29 hz29 hs29 hb29 hops hL
  go_enter Try.func4, Try.ntmps4
  go_wp2_with fail
  refine (first_any w).mono ?_
  rintro e w1 ⟨rfl, hk1⟩
  go_wp2
  refine hold_frame (p := fun fr => Code.wp Try.prog _ _ fr _) ?_
  intro fr hfr
  have e0 : fr.eval (.tmp 0) = .slice bb0 Bb.length bcap := by rw [hfr.out]; rfl
  have hts : fr.tmps.size = 106 := by rw [hfr.out]; rfl
  refine region_S0 99 Try.mixed ?_
  intro w0 hkw hheap
  have hS0 : Kept (fun _ => False) w0 w0 := Kept.refl (fun _ => False) w0
  refine ⟨Kept (fun _ => False) w0, ?_⟩
  refine tkS 0 15 (v := .slice bb0 Bb.length bcap) hS0 rfl rfl (by kernel_rfl) (by kernel_rfl) (by kernel_rfl) (by kernel_rfl) (wanted_none rfl) (fun _ _ _ h => h) (fun U hU => r_move (by simp [eval_put_ne, eval_put_eq, size_put, hts, e0])) ?_
  refine tkS 2 17 (v := .slice bb0 Bb.length bcap) hS0 rfl rfl (by kernel_rfl) (by kernel_rfl) (by kernel_rfl) (by kernel_rfl) (wanted_none rfl) (fun _ _ _ h => h) (fun U hU => r_move (by simp [eval_put_ne, eval_put_eq, size_put, hts, e0])) ?_
  refine tkS 3 18 (v := .string (strN Bb)) hS0 rfl rfl (by kernel_rfl) (by kernel_rfl) (by kernel_rfl) (by kernel_rfl) (wanted_none rfl) (fun _ _ _ h => h) (fun U hU => r_strS (v := .slice bb0 Bb.length bcap) (by simp [eval_put_ne, eval_put_eq, size_put, hts]) ((HSb.out.kept hk1).kept (hkw.trans hU (fun _ _ h => h)))) ?_
  refine tkS 4 19 (v := .agg #[.string (strN Bb), .int .i64 0]) hS0 rfl rfl (by kernel_rfl) (by kernel_rfl) (by kernel_rfl) (by kernel_rfl) (wanted_none rfl) (fun _ _ _ h => h) (fun U hU => r_build42 (by simp [eval_put_ne, eval_put_eq, size_put, hts])) ?_
  refine twoS 1 5 (by kernel_rfl) ?_ ?_
  · refine stepCS 1 16 rfl rfl (wanted_none rfl) (r_call1 Try.func16 (by kernel_rfl) rfl rfl (by simp [eval_put_ne, eval_put_eq, size_put, hts])) (new_at w0 _ Bb ((HSb.out.kept hk1).kept hkw) (by omega)) ?_
    rintro e w3 ⟨s, v3, rfl, hs3, hk3, hsz3⟩
    refine ⟨_, rfl, hk3, ?_⟩
    refine tkS 6 5 (v := .pointer (some ⟨s, 0, none⟩)) hk3 rfl rfl (by kernel_rfl) (by kernel_rfl) (by kernel_rfl) (by kernel_rfl) (wanted_none rfl) (fun _ _ _ h => h) (fun U hU => r_assign (by simp [eval_put_ne, eval_put_eq, size_put, hts])) ?_
    have hk4 := Kept.alloc (fun _ => False) w3 (.cells (Value.cells (.agg #[.string (strN Bb), .int .i64 0])) 42)
    have hb4 := Blk.newA w3 (Value.cells (.agg #[.string (strN Bb), .int .i64 0])) 42
    have hS4 := hk3.trans hk4 (fun _ _ h => h)
    refine oneVS 5 20 (by kernel_rfl) rfl rfl (wanted_none rfl) (run_box42 (v := .agg #[.string (strN Bb), .int .i64 0]) (by simp [eval_put_ne, eval_put_eq, size_put, hts])) hS4 ?_
    refine tkS 7 6 (v := .pointer (some ⟨w3.heap.size, 0, none⟩)) hS4 rfl rfl (by kernel_rfl) (by kernel_rfl) (by kernel_rfl) (by kernel_rfl) (wanted_none rfl) (fun _ _ _ h => h) (fun U hU => r_assign (by simp [eval_put_ne, eval_put_eq, size_put, hts])) ?_
    refine doneS (by kernel_rfl) ?_
    have HR0 : Hid (Rd w (w3.alloc (.cells (Value.cells (.agg #[.string (strN Bb), .int .i64 0])) 42)) s w3.heap.size v3 Bb 0) := hide ⟨by have := hk1.size; have := hkw.size; omega, by have := hk1.size; have := hkw.size; have := hk3.size; omega, ((hk1.trans hkw (fun _ _ h => h)).trans hk3 (fun _ _ h => h)).trans hk4 (fun _ _ h => h), hs3.kept hk4, hb4⟩
    clear hb4 hS4 hk4 hk3 hs3 hsz3 hS0 hkw hheap hk1
    generalize w3.alloc (.cells (Value.cells (.agg #[.string (strN Bb), .int .i64 0])) 42) = w4 at *
    generalize w3.heap.size = x at *
    rw [hfr.out]
    clear hfr e0 hts
    simp only [put_lit, put_none, List.set_cons_succ, List.set_cons_zero]
    go_wp2
    go_loopw [23] (fun i wr => ∃ (k : Nat) (v : Value) (B : List Nat) (E : Int), k ≤ len ∧ k ≤ 60 ∧ i = .int .i64 k ∧ Hid (Rd w wr s x v B E) ∧ B.length ≤ 2000 ∧ Hid (∀ y ∈ B, y < 256)) (fun i _ => len - (intOf i).toNat)
    case atStart => exact ⟨0, _, _, _, by omega, by omega, rfl, HR0, by omega, hide HSb.out.lt⟩
    case round =>
      clear HR0 HSb hb2000 hbl
      obtain ⟨k, v, B, E, hk, hk60, rfl, HR, hBl, HBy⟩ := hrel
      by_cases hlt : k < len
      · obtain ⟨sb, so, e, hcell, hop⟩ := HO.out k (by rw [HL.out]; exact hlt)
        subst e
        obtain ⟨bo, bc, e⟩ := hop.slice
        obtain ⟨⟨kd, n, m, vb, Bo⟩, ho⟩ : ∃ o, L[k]'(by rw [HL.out]; exact hlt) = o := ⟨_, rfl⟩
        rw [ho] at hcell hop e
        simp only at e
        subst e
        have H1 := hide hop.one
        have HOp := hide hop
        have Hcr := hide (HR.out.kept.cells hcell (fun h => h))
        have hbk := hop.2.1
        have hbn := hop.2.2.1
        have hbm := hop.2.2.2.1
        simp only at hbk hbn hbm
        clear hcell ho hop
        by_cases hk59 : k < 60
        · by_cases hev : kd.tmod 2 = 0
          · skip
            go_wp2_with (first
              | (with_reducible refine aw_elem (o := ⟨kd, n, m, .slice bo Bo.length bc, Bo⟩) rfl Hcr.out ?_)
              | ((with_reducible refine aw_alloc (dst := some 9) Hi29.out Hz29.out ?_); intro w6 hw6 hk6 hz6; have Hz6 := hide hz6; clear hz6)
              | ((with_reducible refine aw_store (x := .tmp 9) (M := OpV.cells ⟨kd, n, m, .slice bo Bo.length bc, Bo⟩) Try.agg29 rfl rfl (OpV.cells_length _) H1.out hw6 (by simp [Value.cells]) ?_); intro w7 hw7 hk7 hz7; rw [put_whole _ _ (by simp [Value.cells, OpV.cells])] at hw7; have Hz7 := hide hz7; clear hz7; have c0 : w7.cell? ⟨wr.heap.size, 0, none⟩ = some (.int .i64 kd) := hw7.cell 0; have c1 : w7.cell? ⟨wr.heap.size, 1, none⟩ = some (.int .i64 n) := hw7.cell 1; have c2 : w7.cell? ⟨wr.heap.size, 2, none⟩ = some (.int .i64 m) := hw7.cell 2; have c3 : w7.cell? ⟨wr.heap.size, 3, none⟩ = some (.slice bo Bo.length bc) := hw7.cell 3))
            have hkk : Kept (fun _ => False) wr w7 := hk6.trans hk7 (fun i hi h => by omega)
            have hR7 := HR.out.same hkk
            clear HR
            have HR := hide hR7
            have HW7 := hide hw7
            have hobs : ¬ wr.heap.size = s := fun e => hw7.ne hR7.scan.1 (by decide) e
            have hobx : ¬ wr.heap.size = x := fun e => hw7.ne hR7.ref (by decide) e
            generalize wr.heap.size = ob at *
            clear hw6 hw7 hk6 hk7 hkk c0 c1 c2 c3 hR7
            refine hold_frame (p := fun fr => Code.wp Try.prog _ _ fr _) ?_
            intro fr hfr
            have e5 : fr.eval (.tmp 5) = .pointer (some ⟨s, 0, none⟩) := by rw [hfr.out]; rfl
            have e6 : fr.eval (.tmp 6) = .pointer (some ⟨x, 0, none⟩) := by rw [hfr.out]; rfl
            have e7 : fr.eval (.tmp 7) = .pointer none := by rw [hfr.out]; rfl
            have e9 : fr.eval (.tmp 9) = .pointer (some ⟨ob, 0, none⟩) := by rw [hfr.out]; rfl
            have hts : fr.tmps.size = 106 := by rw [hfr.out]; rfl
            refine region_S 99 (fun U => Blk U ob (OpV.cells ⟨kd, n, m, .slice bo Bo.length bc, Bo⟩) 29) Try.mixed ?_
            intro w0 hkw hheap
            have hS0 := hkw.blk HW7.out (fun h => h)
            refine tkS 0 34 (v := .pointer (some ⟨s, 0, none⟩)) hS0 rfl rfl (by kernel_rfl) (by kernel_rfl) (by kernel_rfl) (by kernel_rfl) (wanted_none rfl) (fun _ _ _ h => h) (fun U hU => r_move (by simp [eval_put_ne, eval_put_eq, size_put, hts, e5])) ?_
            refine tkS 1 35 (v := .pointer (some ⟨ob, 2, none⟩)) hS0 rfl rfl (by kernel_rfl) (by kernel_rfl) (by kernel_rfl) (by kernel_rfl) (wanted_none rfl) (fun _ _ _ h => h) (fun U hU => r_fld29_2 (by simp [eval_put_ne, eval_put_eq, size_put, hts, e9])) ?_
            refine tkS 2 36 (v := .int .i64 m) hS0 rfl rfl (by kernel_rfl) (by kernel_rfl) (by kernel_rfl) (by kernel_rfl) (wanted_none rfl) (fun _ _ _ h => h) (fun U hU => r_ld3 (by simp [eval_put_ne, eval_put_eq, size_put, hts]) (hU.cell 2)) ?_
            refine tkS 4 38 (v := .pointer (some ⟨x, 0, none⟩)) hS0 rfl rfl (by kernel_rfl) (by kernel_rfl) (by kernel_rfl) (by kernel_rfl) (wanted_none rfl) (fun _ _ _ h => h) (fun U hU => r_move (by simp [eval_put_ne, eval_put_eq, size_put, hts, e6])) ?_
            refine tkS 5 39 (v := .pointer (some ⟨ob, 2, none⟩)) hS0 rfl rfl (by kernel_rfl) (by kernel_rfl) (by kernel_rfl) (by kernel_rfl) (wanted_none rfl) (fun _ _ _ h => h) (fun U hU => r_fld29_2 (by simp [eval_put_ne, eval_put_eq, size_put, hts, e9])) ?_
            refine tkS 6 40 (v := .int .i64 m) hS0 rfl rfl (by kernel_rfl) (by kernel_rfl) (by kernel_rfl) (by kernel_rfl) (wanted_none rfl) (fun _ _ _ h => h) (fun U hU => r_ld3 (by simp [eval_put_ne, eval_put_eq, size_put, hts]) (hU.cell 2)) ?_
            refine oneCS 3 37 (by kernel_rfl) rfl rfl (wanted_none rfl) (r_call2 Try.func17 (by kernel_rfl) rfl rfl (by simp [eval_put_ne, eval_put_eq, size_put, hts]) (by simp [eval_put_ne, eval_put_eq, size_put, hts])) (snum_at w0 s v B E (HR.out.scan.kept hkw) (by omega) m) ?_
            rintro e w8 ⟨v8, rfl, hs8, hk8⟩
            have hS8 := hk8.blk hS0 hobs
            have hr8 := hk8.blk (hkw.blk HR.out.ref (fun h => h)) HR.out.ne
            refine ⟨_, rfl, hS8, ?_⟩
            refine oneCS 7 41 (by kernel_rfl) rfl rfl (wanted_none rfl) (r_call2 Try.func18 (by kernel_rfl) rfl rfl (by simp [eval_put_ne, eval_put_eq, size_put, hts]) (by simp [eval_put_ne, eval_put_eq, size_put, hts])) (refnum_at w8 x B HBy.out E hr8 (by omega) m hbm.2) ?_
            rintro e w9 ⟨rfl, hr9, hk9⟩
            have hS9 := hk9.blk hS8 hobx
            refine ⟨_, rfl, hS9, ?_⟩
            refine tkS 8 42 (v := .bool false) hS9 rfl rfl (by kernel_rfl) (by kernel_rfl) (by kernel_rfl) (by kernel_rfl) (wanted_none rfl) (fun _ _ _ h => h) (fun U hU => (r_neq3 (p := (scanNum B E m).1) (q := (scanNum B E m).1) (by simp [eval_put_ne, eval_put_eq, size_put, hts]) (by simp [eval_put_ne, eval_put_eq, size_put, hts])).trans (by simp)) ?_
            refine tkS 9 43 (v := .bool false) hS9 rfl rfl (by kernel_rfl) (by kernel_rfl) (by kernel_rfl) (by kernel_rfl) (wanted_none rfl) (fun _ _ _ h => h) (fun U hU => r_move (by simp [eval_put_ne, eval_put_eq, size_put, hts])) ?_
            refine tkS 10 44 (v := .pointer none) hS9 rfl rfl (by kernel_rfl) (by kernel_rfl) (by kernel_rfl) (by kernel_rfl) (wanted_some (j := 9) (d := 43) (bb := false) rfl rfl rfl (by simp [eval_put_ne, eval_put_eq, size_put, hts]) (by simp [size_put, hts])) (fun _ _ _ h => h) (fun U hU => r_move (by simp [eval_put_ne, eval_put_eq, size_put, hts, e7])) ?_
            refine tkS 11 45 (v := .pointer (some ⟨ob, 2, none⟩)) hS9 rfl rfl (by kernel_rfl) (by kernel_rfl) (by kernel_rfl) (by kernel_rfl) (wanted_some (j := 9) (d := 43) (bb := false) rfl rfl rfl (by simp [eval_put_ne, eval_put_eq, size_put, hts]) (by simp [size_put, hts])) (fun _ _ _ h => h) (fun U hU => r_fld29_2 (by simp [eval_put_ne, eval_put_eq, size_put, hts, e9])) ?_
            refine tkS 12 46 (v := .int .i64 m) hS9 rfl rfl (by kernel_rfl) (by kernel_rfl) (by kernel_rfl) (by kernel_rfl) (wanted_some (j := 9) (d := 43) (bb := false) rfl rfl rfl (by simp [eval_put_ne, eval_put_eq, size_put, hts]) (by simp [size_put, hts])) (fun _ _ _ h => h) (fun U hU => r_ld3 (by simp [eval_put_ne, eval_put_eq, size_put, hts]) (hU.cell 2)) ?_
            refine oneCS 13 47 (by kernel_rfl) rfl rfl (wanted_some (j := 9) (d := 43) (bb := false) rfl rfl rfl (by simp [eval_put_ne, eval_put_eq, size_put, hts]) (by simp [size_put, hts])) (r_call2 Try.func17 (by kernel_rfl) rfl rfl (by simp [eval_put_ne, eval_put_eq, size_put, hts]) (by simp [eval_put_ne, eval_put_eq, size_put, hts])) (snum_nil w9 m) ?_
            rintro e w10 ⟨rfl, rfl⟩
            refine ⟨_, rfl, hS9, ?_⟩
            refine tkS 14 48 (v := .bool false) hS9 rfl rfl (by kernel_rfl) (by kernel_rfl) (by kernel_rfl) (by kernel_rfl) (wanted_some (j := 9) (d := 43) (bb := false) rfl rfl rfl (by simp [eval_put_ne, eval_put_eq, size_put, hts]) (by simp [size_put, hts])) (fun _ _ _ h => h) (fun U hU => (r_neq3 (p := 0) (q := 0) (by simp [eval_put_ne, eval_put_eq, size_put, hts]) rfl).trans (by simp)) ?_
            refine tkS 15 49 (v := .bool false) hS9 rfl rfl (by kernel_rfl) (by kernel_rfl) (by kernel_rfl) (by kernel_rfl) (wanted_none rfl) (fun _ _ _ h => h) (fun U hU => r_pickF (by simp [eval_put_ne, eval_put_eq, size_put, hts]) (by simp [eval_put_ne, eval_put_eq, size_put, hts])) ?_
            refine doneS (by kernel_rfl) ?_
            rw [hfr.out]
            clear hfr e5 e6 e7 e9 hts
            simp only [put_lit, put_none, List.set_cons_succ, List.set_cons_zero]
            have HR9 := hide ((HR.out.same hkw).step hs8 hk8 hr9 hk9)
            have hl9 : (scanNum B E m).2.1.length ≤ 2000 := Nat.le_trans (scanNum_len B E m) hBl
            have HBy9 := hide (scanNum_lt (E := E) (w := m) HBy.out)
            generalize (scanNum B E m).1 = rn at *
            generalize (scanNum B E m).2.1 = B9 at *
            generalize (scanNum B E m).2.2 = E9 at *
            clear hS0 hS8 hS9 hs8 hk8 hr8 hr9 hk9 hkw hheap
            go_wp2
            refine hold_frame (p := fun fr => Code.wp Try.prog _ _ fr _) ?_
            intro fr hfr
            have e5 : fr.eval (.tmp 5) = .pointer (some ⟨s, 0, none⟩) := by rw [hfr.out]; rfl
            have e6 : fr.eval (.tmp 6) = .pointer (some ⟨x, 0, none⟩) := by rw [hfr.out]; rfl
            have hts : fr.tmps.size = 106 := by rw [hfr.out]; rfl
            refine region_S0 99 Try.mixed ?_
            intro w0 hkw hheap
            have hR0 := HR9.out.same hkw
            have hS0 : (fun U => U = w0) w0 := rfl
            refine ⟨(fun U => U = w0), ?_⟩
            refine tkS 0 68 (v := .pointer (some ⟨s, 0, none⟩)) hS0 rfl rfl (by kernel_rfl) (by kernel_rfl) (by kernel_rfl) (by kernel_rfl) (wanted_none rfl) (fun _ _ _ h => h) (fun U hU => r_move (by simp [eval_put_ne, eval_put_eq, size_put, hts, e5])) ?_
            refine tkS 2 70 (v := .pointer (some ⟨x, 0, none⟩)) hS0 rfl rfl (by kernel_rfl) (by kernel_rfl) (by kernel_rfl) (by kernel_rfl) (wanted_none rfl) (fun _ _ _ h => h) (fun U hU => r_move (by simp [eval_put_ne, eval_put_eq, size_put, hts, e6])) ?_
            refine tkS 3 71 (v := .pointer (some ⟨x, 0, none⟩)) hS0 rfl rfl (by kernel_rfl) (by kernel_rfl) (by kernel_rfl) (by kernel_rfl) (wanted_none rfl) (fun _ _ _ h => h) (fun U hU => r_nilChk (by simp [eval_put_ne, eval_put_eq, size_put, hts])) ?_
            refine tkS 4 72 (v := .pointer (some ⟨x, 1, none⟩)) hS0 rfl rfl (by kernel_rfl) (by kernel_rfl) (by kernel_rfl) (by kernel_rfl) (wanted_none rfl) (fun _ _ _ h => h) (fun U hU => r_fld42_1 (by simp [eval_put_ne, eval_put_eq, size_put, hts])) ?_
            refine tkS 5 73 (v := .int .i64 E9) hS0 rfl rfl (by kernel_rfl) (by kernel_rfl) (by kernel_rfl) (by kernel_rfl) (wanted_none rfl) (fun _ _ _ h => h) (fun U hU => r_ld3 (b := x) (o := 1) (by simp [eval_put_ne, eval_put_eq, size_put, hts]) (by rw [hU]; exact Blk.cell hR0.ref 1)) ?_
            refine oneCS 1 69 (by kernel_rfl) rfl rfl (wanted_none rfl) (r_call1 Try.func21 (by kernel_rfl) rfl rfl (by simp [eval_put_ne, eval_put_eq, size_put, hts])) (err_at w0 s v8 B9 E9 hR0.scan) ?_
            rintro e w10 ⟨rfl, hw10⟩
            subst hw10
            refine ⟨_, rfl, hS0, ?_⟩
            refine tkS 6 74 (v := .bool false) hS0 rfl rfl (by kernel_rfl) (by kernel_rfl) (by kernel_rfl) (by kernel_rfl) (wanted_none rfl) (fun _ _ _ h => h) (fun U hU => (r_neq3 (p := E9) (q := E9) (by simp [eval_put_ne, eval_put_eq, size_put, hts]) (by simp [eval_put_ne, eval_put_eq, size_put, hts])).trans (by simp)) ?_
            refine tkS 7 75 (v := .bool false) hS0 rfl rfl (by kernel_rfl) (by kernel_rfl) (by kernel_rfl) (by kernel_rfl) (wanted_none rfl) (fun _ _ _ h => h) (fun U hU => r_move (by simp [eval_put_ne, eval_put_eq, size_put, hts])) ?_
            refine tkS 8 76 (v := .pointer (some ⟨s, 0, none⟩)) hS0 rfl rfl (by kernel_rfl) (by kernel_rfl) (by kernel_rfl) (by kernel_rfl) (wanted_some (j := 7) (d := 75) (bb := false) rfl rfl rfl (by simp [eval_put_ne, eval_put_eq, size_put, hts]) (by simp [size_put, hts])) (fun _ _ _ h => h) (fun U hU => r_move (by simp [eval_put_ne, eval_put_eq, size_put, hts, e5])) ?_
            refine tkS 10 78 (v := .pointer (some ⟨x, 0, none⟩)) hS0 rfl rfl (by kernel_rfl) (by kernel_rfl) (by kernel_rfl) (by kernel_rfl) (wanted_some (j := 7) (d := 75) (bb := false) rfl rfl rfl (by simp [eval_put_ne, eval_put_eq, size_put, hts]) (by simp [size_put, hts])) (fun _ _ _ h => h) (fun U hU => r_move (by simp [eval_put_ne, eval_put_eq, size_put, hts, e6])) ?_
            refine tkS 11 79 (v := .pointer (some ⟨x, 0, none⟩)) hS0 rfl rfl (by kernel_rfl) (by kernel_rfl) (by kernel_rfl) (by kernel_rfl) (wanted_some (j := 7) (d := 75) (bb := false) rfl rfl rfl (by simp [eval_put_ne, eval_put_eq, size_put, hts]) (by simp [size_put, hts])) (fun _ _ _ h => h) (fun U hU => r_nilChk (by simp [eval_put_ne, eval_put_eq, size_put, hts])) ?_
            refine tkS 12 80 (v := .pointer (some ⟨x, 0, none⟩)) hS0 rfl rfl (by kernel_rfl) (by kernel_rfl) (by kernel_rfl) (by kernel_rfl) (wanted_some (j := 7) (d := 75) (bb := false) rfl rfl rfl (by simp [eval_put_ne, eval_put_eq, size_put, hts]) (by simp [size_put, hts])) (fun _ _ _ h => h) (fun U hU => r_fld42_0 (by simp [eval_put_ne, eval_put_eq, size_put, hts])) ?_
            refine tkS 13 81 (v := .string (strN B9)) hS0 rfl rfl (by kernel_rfl) (by kernel_rfl) (by kernel_rfl) (by kernel_rfl) (wanted_some (j := 7) (d := 75) (bb := false) rfl rfl rfl (by simp [eval_put_ne, eval_put_eq, size_put, hts]) (by simp [size_put, hts])) (fun _ _ _ h => h) (fun U hU => r_ld9 (b := x) (o := 0) (by simp [eval_put_ne, eval_put_eq, size_put, hts]) (by rw [hU]; exact Blk.cell hR0.ref 0)) ?_
            refine tkS 14 82 (v := .int .i64 (B9.length : Int)) hS0 rfl rfl (by kernel_rfl) (by kernel_rfl) (by kernel_rfl) (by kernel_rfl) (wanted_some (j := 7) (d := 75) (bb := false) rfl rfl rfl (by simp [eval_put_ne, eval_put_eq, size_put, hts]) (by simp [size_put, hts])) (fun _ _ _ h => h) (fun U hU => r_len9 (B := B9) (by simp [eval_put_ne, eval_put_eq, size_put, hts])) ?_
            refine oneCS 9 77 (by kernel_rfl) rfl rfl (wanted_some (j := 7) (d := 75) (bb := false) rfl rfl rfl (by simp [eval_put_ne, eval_put_eq, size_put, hts]) (by simp [size_put, hts])) (r_call1 Try.func22 (by kernel_rfl) rfl rfl (by simp [eval_put_ne, eval_put_eq, size_put, hts])) (left_at w0 s v8 B9 E9 hR0.scan) ?_
            rintro e w10 ⟨rfl, hw10⟩
            subst hw10
            refine ⟨_, rfl, hS0, ?_⟩
            refine tkS 15 83 (v := .bool false) hS0 rfl rfl (by kernel_rfl) (by kernel_rfl) (by kernel_rfl) (by kernel_rfl) (wanted_some (j := 7) (d := 75) (bb := false) rfl rfl rfl (by simp [eval_put_ne, eval_put_eq, size_put, hts]) (by simp [size_put, hts])) (fun _ _ _ h => h) (fun U hU => (r_neq3 (p := (B9.length : Int)) (q := (B9.length : Int)) (by simp [eval_put_ne, eval_put_eq, size_put, hts]) (by simp [eval_put_ne, eval_put_eq, size_put, hts])).trans (by simp)) ?_
            refine tkS 16 84 (v := .bool false) hS0 rfl rfl (by kernel_rfl) (by kernel_rfl) (by kernel_rfl) (by kernel_rfl) (wanted_none rfl) (fun _ _ _ h => h) (fun U hU => r_pickF (by simp [eval_put_ne, eval_put_eq, size_put, hts]) (by simp [eval_put_ne, eval_put_eq, size_put, hts])) ?_
            refine tkS 17 85 (v := .bool false) hS0 rfl rfl (by kernel_rfl) (by kernel_rfl) (by kernel_rfl) (by kernel_rfl) (wanted_none rfl) (fun _ _ _ h => h) (fun U hU => r_move (by simp [eval_put_ne, eval_put_eq, size_put, hts])) ?_
            refine tkS 18 86 (v := .pointer (some ⟨s, 0, none⟩)) hS0 rfl rfl (by kernel_rfl) (by kernel_rfl) (by kernel_rfl) (by kernel_rfl) (wanted_some (j := 17) (d := 85) (bb := false) rfl rfl rfl (by simp [eval_put_ne, eval_put_eq, size_put, hts]) (by simp [size_put, hts])) (fun _ _ _ h => h) (fun U hU => r_move (by simp [eval_put_ne, eval_put_eq, size_put, hts, e5])) ?_
            refine tkS 20 88 (v := .pointer (some ⟨x, 0, none⟩)) hS0 rfl rfl (by kernel_rfl) (by kernel_rfl) (by kernel_rfl) (by kernel_rfl) (wanted_some (j := 17) (d := 85) (bb := false) rfl rfl rfl (by simp [eval_put_ne, eval_put_eq, size_put, hts]) (by simp [size_put, hts])) (fun _ _ _ h => h) (fun U hU => r_move (by simp [eval_put_ne, eval_put_eq, size_put, hts, e6])) ?_
            refine oneCS 19 87 (by kernel_rfl) rfl rfl (wanted_some (j := 17) (d := 85) (bb := false) rfl rfl rfl (by simp [eval_put_ne, eval_put_eq, size_put, hts]) (by simp [size_put, hts])) (r_call1 Try.func23 (by kernel_rfl) rfl rfl (by simp [eval_put_ne, eval_put_eq, size_put, hts])) (noughts_at w0 s v8 B9 E9 hR0.scan (by omega)) ?_
            rintro e w10 ⟨rfl, hw10⟩
            subst hw10
            refine ⟨_, rfl, hS0, ?_⟩
            refine oneCS 21 89 (by kernel_rfl) rfl rfl (wanted_some (j := 17) (d := 85) (bb := false) rfl rfl rfl (by simp [eval_put_ne, eval_put_eq, size_put, hts]) (by simp [size_put, hts])) (r_call1 Try.func24 (by kernel_rfl) rfl rfl (by simp [eval_put_ne, eval_put_eq, size_put, hts])) (refnoughts_at w0 x B9 HBy9.out E9 hR0.ref (by omega)) ?_
            rintro e w10 ⟨rfl, hw10⟩
            subst hw10
            refine ⟨_, rfl, hS0, ?_⟩
            refine tkS 22 90 (v := .bool false) hS0 rfl rfl (by kernel_rfl) (by kernel_rfl) (by kernel_rfl) (by kernel_rfl) (wanted_some (j := 17) (d := 85) (bb := false) rfl rfl rfl (by simp [eval_put_ne, eval_put_eq, size_put, hts]) (by simp [size_put, hts])) (fun _ _ _ h => h) (fun U hU => (r_neq4 (p := noughtsN B9 E9) (q := noughtsN B9 E9) (by simp [eval_put_ne, eval_put_eq, size_put, hts]) (by simp [eval_put_ne, eval_put_eq, size_put, hts])).trans (by simp)) ?_
            refine tkS 23 91 (v := .bool false) hS0 rfl rfl (by kernel_rfl) (by kernel_rfl) (by kernel_rfl) (by kernel_rfl) (wanted_none rfl) (fun _ _ _ h => h) (fun U hU => r_pickF (by simp [eval_put_ne, eval_put_eq, size_put, hts]) (by simp [eval_put_ne, eval_put_eq, size_put, hts])) ?_
            refine doneS (by kernel_rfl) ?_
            rw [hfr.out]
            clear hfr e5 e6 hts
            simp only [put_lit, put_none, List.set_cons_succ, List.set_cons_zero]
            have HRf := hide hR0
            clear hR0 hS0 hkw hheap HR9
            generalize noughtsN B9 E9 = nb at *
            go_wp2
            go_roundw
            case rel => exact ⟨k + 1, v8, B9, E9, by omega, by omega, by go_num, HRf, hl9, HBy9⟩
            case measure => simp [intOf]; omega
          · skip
            go_wp2_with (first
              | (with_reducible refine aw_elem (o := ⟨kd, n, m, .slice bo Bo.length bc, Bo⟩) rfl Hcr.out ?_)
              | ((with_reducible refine aw_alloc (dst := some 9) Hi29.out Hz29.out ?_); intro w6 hw6 hk6 hz6; have Hz6 := hide hz6; clear hz6)
              | ((with_reducible refine aw_store (x := .tmp 9) (M := OpV.cells ⟨kd, n, m, .slice bo Bo.length bc, Bo⟩) Try.agg29 rfl rfl (OpV.cells_length _) H1.out hw6 (by simp [Value.cells]) ?_); intro w7 hw7 hk7 hz7; rw [put_whole _ _ (by simp [Value.cells, OpV.cells])] at hw7; have Hz7 := hide hz7; clear hz7; have c0 : w7.cell? ⟨wr.heap.size, 0, none⟩ = some (.int .i64 kd) := hw7.cell 0; have c1 : w7.cell? ⟨wr.heap.size, 1, none⟩ = some (.int .i64 n) := hw7.cell 1; have c2 : w7.cell? ⟨wr.heap.size, 2, none⟩ = some (.int .i64 m) := hw7.cell 2; have c3 : w7.cell? ⟨wr.heap.size, 3, none⟩ = some (.slice bo Bo.length bc) := hw7.cell 3))
            have hkk : Kept (fun _ => False) wr w7 := hk6.trans hk7 (fun i hi h => by omega)
            have hR7 := HR.out.same hkk
            clear HR
            have HR := hide hR7
            have HW7 := hide hw7
            have hobs : ¬ wr.heap.size = s := fun e => hw7.ne hR7.scan.1 (by decide) e
            have hobx : ¬ wr.heap.size = x := fun e => hw7.ne hR7.ref (by decide) e
            generalize wr.heap.size = ob at *
            clear hw6 hw7 hk6 hk7 hkk c0 c1 c2 c3 hR7
            refine hold_frame (p := fun fr => Code.wp Try.prog _ _ fr _) ?_
            intro fr hfr
            have e5 : fr.eval (.tmp 5) = .pointer (some ⟨s, 0, none⟩) := by rw [hfr.out]; rfl
            have e6 : fr.eval (.tmp 6) = .pointer (some ⟨x, 0, none⟩) := by rw [hfr.out]; rfl
            have e7 : fr.eval (.tmp 7) = .pointer none := by rw [hfr.out]; rfl
            have e9 : fr.eval (.tmp 9) = .pointer (some ⟨ob, 0, none⟩) := by rw [hfr.out]; rfl
            have hts : fr.tmps.size = 106 := by rw [hfr.out]; rfl
            refine region_S 99 (fun U => Blk U ob (OpV.cells ⟨kd, n, m, .slice bo Bo.length bc, Bo⟩) 29) Try.mixed ?_
            intro w0 hkw hheap
            have hS0 := hkw.blk HW7.out (fun h => h)
            refine tkS 0 50 (v := .pointer (some ⟨s, 0, none⟩)) hS0 rfl rfl (by kernel_rfl) (by kernel_rfl) (by kernel_rfl) (by kernel_rfl) (wanted_none rfl) (fun _ _ _ h => h) (fun U hU => r_move (by simp [eval_put_ne, eval_put_eq, size_put, hts, e5])) ?_
            refine tkS 1 51 (v := .pointer (some ⟨ob, 1, none⟩)) hS0 rfl rfl (by kernel_rfl) (by kernel_rfl) (by kernel_rfl) (by kernel_rfl) (wanted_none rfl) (fun _ _ _ h => h) (fun U hU => r_fld29_1 (by simp [eval_put_ne, eval_put_eq, size_put, hts, e9])) ?_
            refine tkS 2 52 (v := .int .i64 n) hS0 rfl rfl (by kernel_rfl) (by kernel_rfl) (by kernel_rfl) (by kernel_rfl) (wanted_none rfl) (fun _ _ _ h => h) (fun U hU => r_ld3 (by simp [eval_put_ne, eval_put_eq, size_put, hts]) (hU.cell 1)) ?_
            refine tkS 5 55 (v := .pointer (some ⟨x, 0, none⟩)) hS0 rfl rfl (by kernel_rfl) (by kernel_rfl) (by kernel_rfl) (by kernel_rfl) (wanted_none rfl) (fun _ _ _ h => h) (fun U hU => r_move (by simp [eval_put_ne, eval_put_eq, size_put, hts, e6])) ?_
            refine tkS 6 56 (v := .pointer (some ⟨ob, 1, none⟩)) hS0 rfl rfl (by kernel_rfl) (by kernel_rfl) (by kernel_rfl) (by kernel_rfl) (wanted_none rfl) (fun _ _ _ h => h) (fun U hU => r_fld29_1 (by simp [eval_put_ne, eval_put_eq, size_put, hts, e9])) ?_
            refine tkS 7 57 (v := .int .i64 n) hS0 rfl rfl (by kernel_rfl) (by kernel_rfl) (by kernel_rfl) (by kernel_rfl) (wanted_none rfl) (fun _ _ _ h => h) (fun U hU => r_ld3 (by simp [eval_put_ne, eval_put_eq, size_put, hts]) (hU.cell 1)) ?_
            refine oneCS 3 53 (by kernel_rfl) rfl rfl (wanted_none rfl) (r_call2 Try.func19 (by kernel_rfl) rfl rfl (by simp [eval_put_ne, eval_put_eq, size_put, hts]) (by simp [eval_put_ne, eval_put_eq, size_put, hts])) (stext_at w0 s v B E (HR.out.scan.kept hkw) (by omega) n) ?_
            rintro e w8 ⟨vr, v8, rfl, hsr, hs8, hk8⟩
            have hS8 := hk8.blk hS0 hobs
            have hr8 := hk8.blk (hkw.blk HR.out.ref (fun h => h)) HR.out.ne
            refine ⟨_, rfl, hS8, ?_⟩
            refine raiseM (S' := fun U => Blk U ob (OpV.cells ⟨kd, n, m, .slice bo Bo.length bc, Bo⟩) 29 ∧ Src U vr (scanText B E n).1) (fun U hU => hU.1) ?_
            have hT8 : (fun U => Blk U ob (OpV.cells ⟨kd, n, m, .slice bo Bo.length bc, Bo⟩) 29 ∧ Src U vr (scanText B E n).1) _ := ⟨hS8, hsr⟩
            refine tkS 4 54 (v := .string (strN (scanText B E n).1)) hT8 rfl rfl (by kernel_rfl) (by kernel_rfl) (by kernel_rfl) (by kernel_rfl) (wanted_none rfl) (fun _ _ _ h => h) (fun U hU => r_strS (v := vr) (by simp [eval_put_ne, eval_put_eq, size_put, hts]) hU.2) ?_
            refine oneCS 8 58 (by kernel_rfl) rfl rfl (wanted_none rfl) (r_call2 Try.func20 (by kernel_rfl) rfl rfl (by simp [eval_put_ne, eval_put_eq, size_put, hts]) (by simp [eval_put_ne, eval_put_eq, size_put, hts])) (reftext_at w8 x B HBy.out E hr8 (by omega) n) ?_
            rintro e w9 ⟨rfl, hr9, hk9⟩
            have hT9 : Blk w9 ob (OpV.cells ⟨kd, n, m, .slice bo Bo.length bc, Bo⟩) 29 ∧ Src w9 vr (scanText B E n).1 := ⟨hk9.blk hS8 hobx, hsr.keptBut hk9 (RefAt.nobyte hr8)⟩
            refine ⟨_, rfl, hT9, ?_⟩
            refine tkS 9 59 (v := .bool false) hT9 rfl rfl (by kernel_rfl) (by kernel_rfl) (by kernel_rfl) (by kernel_rfl) (wanted_none rfl) (fun _ _ _ h => h) (fun U hU => (r_neq9 (p := strN (scanText B E n).1) (q := strN (scanText B E n).1) (by simp [eval_put_ne, eval_put_eq, size_put, hts]) (by simp [eval_put_ne, eval_put_eq, size_put, hts])).trans (by simp)) ?_
            refine tkS 10 60 (v := .bool false) hT9 rfl rfl (by kernel_rfl) (by kernel_rfl) (by kernel_rfl) (by kernel_rfl) (wanted_none rfl) (fun _ _ _ h => h) (fun U hU => r_move (by simp [eval_put_ne, eval_put_eq, size_put, hts])) ?_
            refine tkS 11 61 (v := .pointer none) hT9 rfl rfl (by kernel_rfl) (by kernel_rfl) (by kernel_rfl) (by kernel_rfl) (wanted_some (j := 10) (d := 60) (bb := false) rfl rfl rfl (by simp [eval_put_ne, eval_put_eq, size_put, hts]) (by simp [size_put, hts])) (fun _ _ _ h => h) (fun U hU => r_move (by simp [eval_put_ne, eval_put_eq, size_put, hts, e7])) ?_
            refine tkS 12 62 (v := .pointer (some ⟨ob, 1, none⟩)) hT9 rfl rfl (by kernel_rfl) (by kernel_rfl) (by kernel_rfl) (by kernel_rfl) (wanted_some (j := 10) (d := 60) (bb := false) rfl rfl rfl (by simp [eval_put_ne, eval_put_eq, size_put, hts]) (by simp [size_put, hts])) (fun _ _ _ h => h) (fun U hU => r_fld29_1 (by simp [eval_put_ne, eval_put_eq, size_put, hts, e9])) ?_
            refine tkS 13 63 (v := .int .i64 n) hT9 rfl rfl (by kernel_rfl) (by kernel_rfl) (by kernel_rfl) (by kernel_rfl) (wanted_some (j := 10) (d := 60) (bb := false) rfl rfl rfl (by simp [eval_put_ne, eval_put_eq, size_put, hts]) (by simp [size_put, hts])) (fun _ _ _ h => h) (fun U hU => r_ld3 (by simp [eval_put_ne, eval_put_eq, size_put, hts]) (hU.1.cell 1)) ?_
            refine oneCS 14 64 (by kernel_rfl) rfl rfl (wanted_some (j := 10) (d := 60) (bb := false) rfl rfl rfl (by simp [eval_put_ne, eval_put_eq, size_put, hts]) (by simp [size_put, hts])) (r_call2 Try.func19 (by kernel_rfl) rfl rfl (by simp [eval_put_ne, eval_put_eq, size_put, hts]) (by simp [eval_put_ne, eval_put_eq, size_put, hts])) (stext_nil w9 n) ?_
            rintro e w10 ⟨rfl, rfl⟩
            refine ⟨_, rfl, hT9, ?_⟩
            refine tkS 15 65 (v := .int .i64 ((0 : Nat) : Int)) hT9 rfl rfl (by kernel_rfl) (by kernel_rfl) (by kernel_rfl) (by kernel_rfl) (wanted_some (j := 10) (d := 60) (bb := false) rfl rfl rfl (by simp [eval_put_ne, eval_put_eq, size_put, hts]) (by simp [size_put, hts])) (fun _ _ _ h => h) (fun U hU => r_len25 (ao := none) (l := 0) (c := 0) (by simp [eval_put_ne, eval_put_eq, size_put, hts])) ?_
            refine tkS 16 66 (v := .bool false) hT9 rfl rfl (by kernel_rfl) (by kernel_rfl) (by kernel_rfl) (by kernel_rfl) (wanted_some (j := 10) (d := 60) (bb := false) rfl rfl rfl (by simp [eval_put_ne, eval_put_eq, size_put, hts]) (by simp [size_put, hts])) (fun _ _ _ h => h) (fun U hU => (r_neq3 (p := ((0 : Nat) : Int)) (q := 0) (by simp [eval_put_ne, eval_put_eq, size_put, hts]) rfl).trans (by simp)) ?_
            refine tkS 17 67 (v := .bool false) hT9 rfl rfl (by kernel_rfl) (by kernel_rfl) (by kernel_rfl) (by kernel_rfl) (wanted_none rfl) (fun _ _ _ h => h) (fun U hU => r_pickF (by simp [eval_put_ne, eval_put_eq, size_put, hts]) (by simp [eval_put_ne, eval_put_eq, size_put, hts])) ?_
            refine doneS (by kernel_rfl) ?_
            rw [hfr.out]
            clear hfr e5 e6 e7 e9 hts
            simp only [put_lit, put_none, List.set_cons_succ, List.set_cons_zero]
            have HR9 := hide ((HR.out.same hkw).step hs8 hk8 hr9 hk9)
            have hl9 : (scanText B E n).2.1.length ≤ 2000 := Nat.le_trans (scanText_len B E n) hBl
            have HBy9 := hide (scanText_lt (E := E) (m := n) HBy.out).2
            clear hS0 hS8 hT8 hT9 hs8 hk8 hr8 hr9 hk9 hkw hheap hsr
            generalize strN (scanText B E n).1 = sx at *
            generalize (scanText B E n).2.1 = B9 at *
            generalize (scanText B E n).2.2 = E9 at *
            go_wp2
            refine hold_frame (p := fun fr => Code.wp Try.prog _ _ fr _) ?_
            intro fr hfr
            have e5 : fr.eval (.tmp 5) = .pointer (some ⟨s, 0, none⟩) := by rw [hfr.out]; rfl
            have e6 : fr.eval (.tmp 6) = .pointer (some ⟨x, 0, none⟩) := by rw [hfr.out]; rfl
            have hts : fr.tmps.size = 106 := by rw [hfr.out]; rfl
            refine region_S0 99 Try.mixed ?_
            intro w0 hkw hheap
            have hR0 := HR9.out.same hkw
            have hS0 : (fun U => U = w0) w0 := rfl
            refine ⟨(fun U => U = w0), ?_⟩
            refine tkS 0 68 (v := .pointer (some ⟨s, 0, none⟩)) hS0 rfl rfl (by kernel_rfl) (by kernel_rfl) (by kernel_rfl) (by kernel_rfl) (wanted_none rfl) (fun _ _ _ h => h) (fun U hU => r_move (by simp [eval_put_ne, eval_put_eq, size_put, hts, e5])) ?_
            refine tkS 2 70 (v := .pointer (some ⟨x, 0, none⟩)) hS0 rfl rfl (by kernel_rfl) (by kernel_rfl) (by kernel_rfl) (by kernel_rfl) (wanted_none rfl) (fun _ _ _ h => h) (fun U hU => r_move (by simp [eval_put_ne, eval_put_eq, size_put, hts, e6])) ?_
            refine tkS 3 71 (v := .pointer (some ⟨x, 0, none⟩)) hS0 rfl rfl (by kernel_rfl) (by kernel_rfl) (by kernel_rfl) (by kernel_rfl) (wanted_none rfl) (fun _ _ _ h => h) (fun U hU => r_nilChk (by simp [eval_put_ne, eval_put_eq, size_put, hts])) ?_
            refine tkS 4 72 (v := .pointer (some ⟨x, 1, none⟩)) hS0 rfl rfl (by kernel_rfl) (by kernel_rfl) (by kernel_rfl) (by kernel_rfl) (wanted_none rfl) (fun _ _ _ h => h) (fun U hU => r_fld42_1 (by simp [eval_put_ne, eval_put_eq, size_put, hts])) ?_
            refine tkS 5 73 (v := .int .i64 E9) hS0 rfl rfl (by kernel_rfl) (by kernel_rfl) (by kernel_rfl) (by kernel_rfl) (wanted_none rfl) (fun _ _ _ h => h) (fun U hU => r_ld3 (b := x) (o := 1) (by simp [eval_put_ne, eval_put_eq, size_put, hts]) (by rw [hU]; exact Blk.cell hR0.ref 1)) ?_
            refine oneCS 1 69 (by kernel_rfl) rfl rfl (wanted_none rfl) (r_call1 Try.func21 (by kernel_rfl) rfl rfl (by simp [eval_put_ne, eval_put_eq, size_put, hts])) (err_at w0 s v8 B9 E9 hR0.scan) ?_
            rintro e w10 ⟨rfl, hw10⟩
            subst hw10
            refine ⟨_, rfl, hS0, ?_⟩
            refine tkS 6 74 (v := .bool false) hS0 rfl rfl (by kernel_rfl) (by kernel_rfl) (by kernel_rfl) (by kernel_rfl) (wanted_none rfl) (fun _ _ _ h => h) (fun U hU => (r_neq3 (p := E9) (q := E9) (by simp [eval_put_ne, eval_put_eq, size_put, hts]) (by simp [eval_put_ne, eval_put_eq, size_put, hts])).trans (by simp)) ?_
            refine tkS 7 75 (v := .bool false) hS0 rfl rfl (by kernel_rfl) (by kernel_rfl) (by kernel_rfl) (by kernel_rfl) (wanted_none rfl) (fun _ _ _ h => h) (fun U hU => r_move (by simp [eval_put_ne, eval_put_eq, size_put, hts])) ?_
            refine tkS 8 76 (v := .pointer (some ⟨s, 0, none⟩)) hS0 rfl rfl (by kernel_rfl) (by kernel_rfl) (by kernel_rfl) (by kernel_rfl) (wanted_some (j := 7) (d := 75) (bb := false) rfl rfl rfl (by simp [eval_put_ne, eval_put_eq, size_put, hts]) (by simp [size_put, hts])) (fun _ _ _ h => h) (fun U hU => r_move (by simp [eval_put_ne, eval_put_eq, size_put, hts, e5])) ?_
            refine tkS 10 78 (v := .pointer (some ⟨x, 0, none⟩)) hS0 rfl rfl (by kernel_rfl) (by kernel_rfl) (by kernel_rfl) (by kernel_rfl) (wanted_some (j := 7) (d := 75) (bb := false) rfl rfl rfl (by simp [eval_put_ne, eval_put_eq, size_put, hts]) (by simp [size_put, hts])) (fun _ _ _ h => h) (fun U hU => r_move (by simp [eval_put_ne, eval_put_eq, size_put, hts, e6])) ?_
            refine tkS 11 79 (v := .pointer (some ⟨x, 0, none⟩)) hS0 rfl rfl (by kernel_rfl) (by kernel_rfl) (by kernel_rfl) (by kernel_rfl) (wanted_some (j := 7) (d := 75) (bb := false) rfl rfl rfl (by simp [eval_put_ne, eval_put_eq, size_put, hts]) (by simp [size_put, hts])) (fun _ _ _ h => h) (fun U hU => r_nilChk (by simp [eval_put_ne, eval_put_eq, size_put, hts])) ?_
            refine tkS 12 80 (v := .pointer (some ⟨x, 0, none⟩)) hS0 rfl rfl (by kernel_rfl) (by kernel_rfl) (by kernel_rfl) (by kernel_rfl) (wanted_some (j := 7) (d := 75) (bb := false) rfl rfl rfl (by simp [eval_put_ne, eval_put_eq, size_put, hts]) (by simp [size_put, hts])) (fun _ _ _ h => h) (fun U hU => r_fld42_0 (by simp [eval_put_ne, eval_put_eq, size_put, hts])) ?_
            refine tkS 13 81 (v := .string (strN B9)) hS0 rfl rfl (by kernel_rfl) (by kernel_rfl) (by kernel_rfl) (by kernel_rfl) (wanted_some (j := 7) (d := 75) (bb := false) rfl rfl rfl (by simp [eval_put_ne, eval_put_eq, size_put, hts]) (by simp [size_put, hts])) (fun _ _ _ h => h) (fun U hU => r_ld9 (b := x) (o := 0) (by simp [eval_put_ne, eval_put_eq, size_put, hts]) (by rw [hU]; exact Blk.cell hR0.ref 0)) ?_
            refine tkS 14 82 (v := .int .i64 (B9.length : Int)) hS0 rfl rfl (by kernel_rfl) (by kernel_rfl) (by kernel_rfl) (by kernel_rfl) (wanted_some (j := 7) (d := 75) (bb := false) rfl rfl rfl (by simp [eval_put_ne, eval_put_eq, size_put, hts]) (by simp [size_put, hts])) (fun _ _ _ h => h) (fun U hU => r_len9 (B := B9) (by simp [eval_put_ne, eval_put_eq, size_put, hts])) ?_
            refine oneCS 9 77 (by kernel_rfl) rfl rfl (wanted_some (j := 7) (d := 75) (bb := false) rfl rfl rfl (by simp [eval_put_ne, eval_put_eq, size_put, hts]) (by simp [size_put, hts])) (r_call1 Try.func22 (by kernel_rfl) rfl rfl (by simp [eval_put_ne, eval_put_eq, size_put, hts])) (left_at w0 s v8 B9 E9 hR0.scan) ?_
            rintro e w10 ⟨rfl, hw10⟩
            subst hw10
            refine ⟨_, rfl, hS0, ?_⟩
            refine tkS 15 83 (v := .bool false) hS0 rfl rfl (by kernel_rfl) (by kernel_rfl) (by kernel_rfl) (by kernel_rfl) (wanted_some (j := 7) (d := 75) (bb := false) rfl rfl rfl (by simp [eval_put_ne, eval_put_eq, size_put, hts]) (by simp [size_put, hts])) (fun _ _ _ h => h) (fun U hU => (r_neq3 (p := (B9.length : Int)) (q := (B9.length : Int)) (by simp [eval_put_ne, eval_put_eq, size_put, hts]) (by simp [eval_put_ne, eval_put_eq, size_put, hts])).trans (by simp)) ?_
            refine tkS 16 84 (v := .bool false) hS0 rfl rfl (by kernel_rfl) (by kernel_rfl) (by kernel_rfl) (by kernel_rfl) (wanted_none rfl) (fun _ _ _ h => h) (fun U hU => r_pickF (by simp [eval_put_ne, eval_put_eq, size_put, hts]) (by simp [eval_put_ne, eval_put_eq, size_put, hts])) ?_
            refine tkS 17 85 (v := .bool false) hS0 rfl rfl (by kernel_rfl) (by kernel_rfl) (by kernel_rfl) (by kernel_rfl) (wanted_none rfl) (fun _ _ _ h => h) (fun U hU => r_move (by simp [eval_put_ne, eval_put_eq, size_put, hts])) ?_
            refine tkS 18 86 (v := .pointer (some ⟨s, 0, none⟩)) hS0 rfl rfl (by kernel_rfl) (by kernel_rfl) (by kernel_rfl) (by kernel_rfl) (wanted_some (j := 17) (d := 85) (bb := false) rfl rfl rfl (by simp [eval_put_ne, eval_put_eq, size_put, hts]) (by simp [size_put, hts])) (fun _ _ _ h => h) (fun U hU => r_move (by simp [eval_put_ne, eval_put_eq, size_put, hts, e5])) ?_
            refine tkS 20 88 (v := .pointer (some ⟨x, 0, none⟩)) hS0 rfl rfl (by kernel_rfl) (by kernel_rfl) (by kernel_rfl) (by kernel_rfl) (wanted_some (j := 17) (d := 85) (bb := false) rfl rfl rfl (by simp [eval_put_ne, eval_put_eq, size_put, hts]) (by simp [size_put, hts])) (fun _ _ _ h => h) (fun U hU => r_move (by simp [eval_put_ne, eval_put_eq, size_put, hts, e6])) ?_
            refine oneCS 19 87 (by kernel_rfl) rfl rfl (wanted_some (j := 17) (d := 85) (bb := false) rfl rfl rfl (by simp [eval_put_ne, eval_put_eq, size_put, hts]) (by simp [size_put, hts])) (r_call1 Try.func23 (by kernel_rfl) rfl rfl (by simp [eval_put_ne, eval_put_eq, size_put, hts])) (noughts_at w0 s v8 B9 E9 hR0.scan (by omega)) ?_
            rintro e w10 ⟨rfl, hw10⟩
            subst hw10
            refine ⟨_, rfl, hS0, ?_⟩
            refine oneCS 21 89 (by kernel_rfl) rfl rfl (wanted_some (j := 17) (d := 85) (bb := false) rfl rfl rfl (by simp [eval_put_ne, eval_put_eq, size_put, hts]) (by simp [size_put, hts])) (r_call1 Try.func24 (by kernel_rfl) rfl rfl (by simp [eval_put_ne, eval_put_eq, size_put, hts])) (refnoughts_at w0 x B9 HBy9.out E9 hR0.ref (by omega)) ?_
            rintro e w10 ⟨rfl, hw10⟩
            subst hw10
            refine ⟨_, rfl, hS0, ?_⟩
            refine tkS 22 90 (v := .bool false) hS0 rfl rfl (by kernel_rfl) (by kernel_rfl) (by kernel_rfl) (by kernel_rfl) (wanted_some (j := 17) (d := 85) (bb := false) rfl rfl rfl (by simp [eval_put_ne, eval_put_eq, size_put, hts]) (by simp [size_put, hts])) (fun _ _ _ h => h) (fun U hU => (r_neq4 (p := noughtsN B9 E9) (q := noughtsN B9 E9) (by simp [eval_put_ne, eval_put_eq, size_put, hts]) (by simp [eval_put_ne, eval_put_eq, size_put, hts])).trans (by simp)) ?_
            refine tkS 23 91 (v := .bool false) hS0 rfl rfl (by kernel_rfl) (by kernel_rfl) (by kernel_rfl) (by kernel_rfl) (wanted_none rfl) (fun _ _ _ h => h) (fun U hU => r_pickF (by simp [eval_put_ne, eval_put_eq, size_put, hts]) (by simp [eval_put_ne, eval_put_eq, size_put, hts])) ?_
            refine doneS (by kernel_rfl) ?_
            rw [hfr.out]
            clear hfr e5 e6 hts
            simp only [put_lit, put_none, List.set_cons_succ, List.set_cons_zero]
            have HRf := hide hR0
            clear hR0 hS0 hkw hheap HR9
            generalize noughtsN B9 E9 = nb at *
            go_wp2
            go_roundw
            case rel => exact ⟨k + 1, v8, B9, E9, by omega, by omega, by go_num, HRf, hl9, HBy9⟩
            case measure => simp [intOf]; omega
        · obtain rfl : k = 60 := by omega
          go_wp2_with (first
            | (with_reducible refine aw_elem (o := ⟨kd, n, m, .slice bo Bo.length bc, Bo⟩) rfl Hcr.out ?_)
            | ((with_reducible refine aw_alloc (dst := some 9) Hi29.out Hz29.out ?_); intro w6 hw6 hk6 hz6; have Hz6 := hide hz6; clear hz6)
            | ((with_reducible refine aw_store (x := .tmp 9) (M := OpV.cells ⟨kd, n, m, .slice bo Bo.length bc, Bo⟩) Try.agg29 rfl rfl (OpV.cells_length _) H1.out hw6 (by simp [Value.cells]) ?_); intro w7 hw7 hk7 hz7; rw [put_whole _ _ (by simp [Value.cells, OpV.cells])] at hw7; have Hz7 := hide hz7; clear hz7; have c0 : w7.cell? ⟨wr.heap.size, 0, none⟩ = some (.int .i64 kd) := hw7.cell 0; have c1 : w7.cell? ⟨wr.heap.size, 1, none⟩ = some (.int .i64 n) := hw7.cell 1; have c2 : w7.cell? ⟨wr.heap.size, 2, none⟩ = some (.int .i64 m) := hw7.cell 2; have c3 : w7.cell? ⟨wr.heap.size, 3, none⟩ = some (.slice bo Bo.length bc) := hw7.cell 3))
          have hkF : Kept (fun _ => False) w w7 := (HR.out.kept.trans hk6 (fun _ _ h => h)).trans hk7 (fun i hi h => by have := HR.out.kept.size; omega)
          refine (err_nil w7).mono ?_
          rintro e w9 ⟨rfl, rfl⟩
          go_wp2_with fail
          refine (left_nil w7).mono ?_
          rintro e w9 ⟨rfl, rfl⟩
          go_wp2_with fail
          refine (noughts_nil w7).mono ?_
          rintro e w9 ⟨rfl, rfl⟩
          go_wp2
          go_ret
          exact ⟨rfl, hkF⟩
      · obtain rfl : k = len := by omega
        have hkF := HR.out.kept
        clear HR
        go_wp2_with fail
        refine (err_nil wr).mono ?_
        rintro e w9 ⟨rfl, rfl⟩
        go_wp2_with fail
        refine (left_nil wr).mono ?_
        rintro e w9 ⟨rfl, rfl⟩
        go_wp2_with fail
        refine (noughts_nil wr).mono ?_
        rintro e w9 ⟨rfl, rfl⟩
        go_wp2
        go_ret
        exact ⟨rfl, hkF⟩
  · have hk3 := Kept.alloc (fun _ => False) w0 (.cells (Value.cells (.agg #[.string (strN Bb), .int .i64 0])) 42)
    have hb3 := Blk.newA w0 (Value.cells (.agg #[.string (strN Bb), .int .i64 0])) 42
    refine stepVS 5 20 rfl rfl (wanted_none rfl) (run_box42 (v := .agg #[.string (strN Bb), .int .i64 0]) (by simp [eval_put_ne, eval_put_eq, size_put, hts])) (fun _ => hk3) ?_
    refine oneCS 1 16 (by kernel_rfl) rfl rfl (wanted_none rfl) (r_call1 Try.func16 (by kernel_rfl) rfl rfl (by simp [eval_put_ne, eval_put_eq, size_put, hts])) (new_at _ _ Bb (((HSb.out.kept hk1).kept hkw).kept hk3) (by omega)) ?_
    rintro e w4 ⟨s, v3, rfl, hs3, hk4, hsz3⟩
    have hS4 := hk3.trans hk4 (fun _ _ h => h)
    refine ⟨_, rfl, hS4, ?_⟩
    refine tkS 6 5 (v := .pointer (some ⟨s, 0, none⟩)) hS4 rfl rfl (by kernel_rfl) (by kernel_rfl) (by kernel_rfl) (by kernel_rfl) (wanted_none rfl) (fun _ _ _ h => h) (fun U hU => r_assign (by simp [eval_put_ne, eval_put_eq, size_put, hts])) ?_
    refine tkS 7 6 (v := .pointer (some ⟨w0.heap.size, 0, none⟩)) hS4 rfl rfl (by kernel_rfl) (by kernel_rfl) (by kernel_rfl) (by kernel_rfl) (wanted_none rfl) (fun _ _ _ h => h) (fun U hU => r_assign (by simp [eval_put_ne, eval_put_eq, size_put, hts])) ?_
    refine doneS (by kernel_rfl) ?_
    have HR0 : Hid (Rd w w4 s w0.heap.size v3 Bb 0) := hide ⟨by have := hk1.size; have := hkw.size; have := hk3.size; omega, by have := hk1.size; have := hkw.size; omega, ((hk1.trans hkw (fun _ _ h => h)).trans hk3 (fun _ _ h => h)).trans hk4 (fun _ _ h => h), hs3, hk4.blk hb3 (fun h => h)⟩
    clear hb3 hS4 hk4 hk3 hs3 hsz3 hS0 hkw hheap hk1
    generalize w0.heap.size = x at *
    rw [hfr.out]
    clear hfr e0 hts
    simp only [put_lit, put_none, List.set_cons_succ, List.set_cons_zero]
    go_wp2
    go_loopw [23] (fun i wr => ∃ (k : Nat) (v : Value) (B : List Nat) (E : Int), k ≤ len ∧ k ≤ 60 ∧ i = .int .i64 k ∧ Hid (Rd w wr s x v B E) ∧ B.length ≤ 2000 ∧ Hid (∀ y ∈ B, y < 256)) (fun i _ => len - (intOf i).toNat)
    case atStart => exact ⟨0, _, _, _, by omega, by omega, rfl, HR0, by omega, hide HSb.out.lt⟩
    case round =>
      clear HR0 HSb hb2000 hbl
      obtain ⟨k, v, B, E, hk, hk60, rfl, HR, hBl, HBy⟩ := hrel
      by_cases hlt : k < len
      · obtain ⟨sb, so, e, hcell, hop⟩ := HO.out k (by rw [HL.out]; exact hlt)
        subst e
        obtain ⟨bo, bc, e⟩ := hop.slice
        obtain ⟨⟨kd, n, m, vb, Bo⟩, ho⟩ : ∃ o, L[k]'(by rw [HL.out]; exact hlt) = o := ⟨_, rfl⟩
        rw [ho] at hcell hop e
        simp only at e
        subst e
        have H1 := hide hop.one
        have HOp := hide hop
        have Hcr := hide (HR.out.kept.cells hcell (fun h => h))
        have hbk := hop.2.1
        have hbn := hop.2.2.1
        have hbm := hop.2.2.2.1
        simp only at hbk hbn hbm
        clear hcell ho hop
        by_cases hk59 : k < 60
        · by_cases hev : kd.tmod 2 = 0
          · skip
            go_wp2_with (first
              | (with_reducible refine aw_elem (o := ⟨kd, n, m, .slice bo Bo.length bc, Bo⟩) rfl Hcr.out ?_)
              | ((with_reducible refine aw_alloc (dst := some 9) Hi29.out Hz29.out ?_); intro w6 hw6 hk6 hz6; have Hz6 := hide hz6; clear hz6)
              | ((with_reducible refine aw_store (x := .tmp 9) (M := OpV.cells ⟨kd, n, m, .slice bo Bo.length bc, Bo⟩) Try.agg29 rfl rfl (OpV.cells_length _) H1.out hw6 (by simp [Value.cells]) ?_); intro w7 hw7 hk7 hz7; rw [put_whole _ _ (by simp [Value.cells, OpV.cells])] at hw7; have Hz7 := hide hz7; clear hz7; have c0 : w7.cell? ⟨wr.heap.size, 0, none⟩ = some (.int .i64 kd) := hw7.cell 0; have c1 : w7.cell? ⟨wr.heap.size, 1, none⟩ = some (.int .i64 n) := hw7.cell 1; have c2 : w7.cell? ⟨wr.heap.size, 2, none⟩ = some (.int .i64 m) := hw7.cell 2; have c3 : w7.cell? ⟨wr.heap.size, 3, none⟩ = some (.slice bo Bo.length bc) := hw7.cell 3))
            have hkk : Kept (fun _ => False) wr w7 := hk6.trans hk7 (fun i hi h => by omega)
            have hR7 := HR.out.same hkk
            clear HR
            have HR := hide hR7
            have HW7 := hide hw7
            have hobs : ¬ wr.heap.size = s := fun e => hw7.ne hR7.scan.1 (by decide) e
            have hobx : ¬ wr.heap.size = x := fun e => hw7.ne hR7.ref (by decide) e
            generalize wr.heap.size = ob at *
            clear hw6 hw7 hk6 hk7 hkk c0 c1 c2 c3 hR7
            refine hold_frame (p := fun fr => Code.wp Try.prog _ _ fr _) ?_
            intro fr hfr
            have e5 : fr.eval (.tmp 5) = .pointer (some ⟨s, 0, none⟩) := by rw [hfr.out]; rfl
            have e6 : fr.eval (.tmp 6) = .pointer (some ⟨x, 0, none⟩) := by rw [hfr.out]; rfl
            have e7 : fr.eval (.tmp 7) = .pointer none := by rw [hfr.out]; rfl
            have e9 : fr.eval (.tmp 9) = .pointer (some ⟨ob, 0, none⟩) := by rw [hfr.out]; rfl
            have hts : fr.tmps.size = 106 := by rw [hfr.out]; rfl
            refine region_S 99 (fun U => Blk U ob (OpV.cells ⟨kd, n, m, .slice bo Bo.length bc, Bo⟩) 29) Try.mixed ?_
            intro w0 hkw hheap
            have hS0 := hkw.blk HW7.out (fun h => h)
            refine tkS 0 34 (v := .pointer (some ⟨s, 0, none⟩)) hS0 rfl rfl (by kernel_rfl) (by kernel_rfl) (by kernel_rfl) (by kernel_rfl) (wanted_none rfl) (fun _ _ _ h => h) (fun U hU => r_move (by simp [eval_put_ne, eval_put_eq, size_put, hts, e5])) ?_
            refine tkS 1 35 (v := .pointer (some ⟨ob, 2, none⟩)) hS0 rfl rfl (by kernel_rfl) (by kernel_rfl) (by kernel_rfl) (by kernel_rfl) (wanted_none rfl) (fun _ _ _ h => h) (fun U hU => r_fld29_2 (by simp [eval_put_ne, eval_put_eq, size_put, hts, e9])) ?_
            refine tkS 2 36 (v := .int .i64 m) hS0 rfl rfl (by kernel_rfl) (by kernel_rfl) (by kernel_rfl) (by kernel_rfl) (wanted_none rfl) (fun _ _ _ h => h) (fun U hU => r_ld3 (by simp [eval_put_ne, eval_put_eq, size_put, hts]) (hU.cell 2)) ?_
            refine tkS 4 38 (v := .pointer (some ⟨x, 0, none⟩)) hS0 rfl rfl (by kernel_rfl) (by kernel_rfl) (by kernel_rfl) (by kernel_rfl) (wanted_none rfl) (fun _ _ _ h => h) (fun U hU => r_move (by simp [eval_put_ne, eval_put_eq, size_put, hts, e6])) ?_
            refine tkS 5 39 (v := .pointer (some ⟨ob, 2, none⟩)) hS0 rfl rfl (by kernel_rfl) (by kernel_rfl) (by kernel_rfl) (by kernel_rfl) (wanted_none rfl) (fun _ _ _ h => h) (fun U hU => r_fld29_2 (by simp [eval_put_ne, eval_put_eq, size_put, hts, e9])) ?_
            refine tkS 6 40 (v := .int .i64 m) hS0 rfl rfl (by kernel_rfl) (by kernel_rfl) (by kernel_rfl) (by kernel_rfl) (wanted_none rfl) (fun _ _ _ h => h) (fun U hU => r_ld3 (by simp [eval_put_ne, eval_put_eq, size_put, hts]) (hU.cell 2)) ?_
            refine oneCS 3 37 (by kernel_rfl) rfl rfl (wanted_none rfl) (r_call2 Try.func17 (by kernel_rfl) rfl rfl (by simp [eval_put_ne, eval_put_eq, size_put, hts]) (by simp [eval_put_ne, eval_put_eq, size_put, hts])) (snum_at w0 s v B E (HR.out.scan.kept hkw) (by omega) m) ?_
            rintro e w8 ⟨v8, rfl, hs8, hk8⟩
            have hS8 := hk8.blk hS0 hobs
            have hr8 := hk8.blk (hkw.blk HR.out.ref (fun h => h)) HR.out.ne
            refine ⟨_, rfl, hS8, ?_⟩
            refine oneCS 7 41 (by kernel_rfl) rfl rfl (wanted_none rfl) (r_call2 Try.func18 (by kernel_rfl) rfl rfl (by simp [eval_put_ne, eval_put_eq, size_put, hts]) (by simp [eval_put_ne, eval_put_eq, size_put, hts])) (refnum_at w8 x B HBy.out E hr8 (by omega) m hbm.2) ?_
            rintro e w9 ⟨rfl, hr9, hk9⟩
            have hS9 := hk9.blk hS8 hobx
            refine ⟨_, rfl, hS9, ?_⟩
            refine tkS 8 42 (v := .bool false) hS9 rfl rfl (by kernel_rfl) (by kernel_rfl) (by kernel_rfl) (by kernel_rfl) (wanted_none rfl) (fun _ _ _ h => h) (fun U hU => (r_neq3 (p := (scanNum B E m).1) (q := (scanNum B E m).1) (by simp [eval_put_ne, eval_put_eq, size_put, hts]) (by simp [eval_put_ne, eval_put_eq, size_put, hts])).trans (by simp)) ?_
            refine tkS 9 43 (v := .bool false) hS9 rfl rfl (by kernel_rfl) (by kernel_rfl) (by kernel_rfl) (by kernel_rfl) (wanted_none rfl) (fun _ _ _ h => h) (fun U hU => r_move (by simp [eval_put_ne, eval_put_eq, size_put, hts])) ?_
            refine tkS 10 44 (v := .pointer none) hS9 rfl rfl (by kernel_rfl) (by kernel_rfl) (by kernel_rfl) (by kernel_rfl) (wanted_some (j := 9) (d := 43) (bb := false) rfl rfl rfl (by simp [eval_put_ne, eval_put_eq, size_put, hts]) (by simp [size_put, hts])) (fun _ _ _ h => h) (fun U hU => r_move (by simp [eval_put_ne, eval_put_eq, size_put, hts, e7])) ?_
            refine tkS 11 45 (v := .pointer (some ⟨ob, 2, none⟩)) hS9 rfl rfl (by kernel_rfl) (by kernel_rfl) (by kernel_rfl) (by kernel_rfl) (wanted_some (j := 9) (d := 43) (bb := false) rfl rfl rfl (by simp [eval_put_ne, eval_put_eq, size_put, hts]) (by simp [size_put, hts])) (fun _ _ _ h => h) (fun U hU => r_fld29_2 (by simp [eval_put_ne, eval_put_eq, size_put, hts, e9])) ?_
            refine tkS 12 46 (v := .int .i64 m) hS9 rfl rfl (by kernel_rfl) (by kernel_rfl) (by kernel_rfl) (by kernel_rfl) (wanted_some (j := 9) (d := 43) (bb := false) rfl rfl rfl (by simp [eval_put_ne, eval_put_eq, size_put, hts]) (by simp [size_put, hts])) (fun _ _ _ h => h) (fun U hU => r_ld3 (by simp [eval_put_ne, eval_put_eq, size_put, hts]) (hU.cell 2)) ?_
            refine oneCS 13 47 (by kernel_rfl) rfl rfl (wanted_some (j := 9) (d := 43) (bb := false) rfl rfl rfl (by simp [eval_put_ne, eval_put_eq, size_put, hts]) (by simp [size_put, hts])) (r_call2 Try.func17 (by kernel_rfl) rfl rfl (by simp [eval_put_ne, eval_put_eq, size_put, hts]) (by simp [eval_put_ne, eval_put_eq, size_put, hts])) (snum_nil w9 m) ?_
            rintro e w10 ⟨rfl, rfl⟩
            refine ⟨_, rfl, hS9, ?_⟩
            refine tkS 14 48 (v := .bool false) hS9 rfl rfl (by kernel_rfl) (by kernel_rfl) (by kernel_rfl) (by kernel_rfl) (wanted_some (j := 9) (d := 43) (bb := false) rfl rfl rfl (by simp [eval_put_ne, eval_put_eq, size_put, hts]) (by simp [size_put, hts])) (fun _ _ _ h => h) (fun U hU => (r_neq3 (p := 0) (q := 0) (by simp [eval_put_ne, eval_put_eq, size_put, hts]) rfl).trans (by simp)) ?_
            refine tkS 15 49 (v := .bool false) hS9 rfl rfl (by kernel_rfl) (by kernel_rfl) (by kernel_rfl) (by kernel_rfl) (wanted_none rfl) (fun _ _ _ h => h) (fun U hU => r_pickF (by simp [eval_put_ne, eval_put_eq, size_put, hts]) (by simp [eval_put_ne, eval_put_eq, size_put, hts])) ?_
            refine doneS (by kernel_rfl) ?_
            rw [hfr.out]
            clear hfr e5 e6 e7 e9 hts
            simp only [put_lit, put_none, List.set_cons_succ, List.set_cons_zero]
            have HR9 := hide ((HR.out.same hkw).step hs8 hk8 hr9 hk9)
            have hl9 : (scanNum B E m).2.1.length ≤ 2000 := Nat.le_trans (scanNum_len B E m) hBl
            have HBy9 := hide (scanNum_lt (E := E) (w := m) HBy.out)
            generalize (scanNum B E m).1 = rn at *
            generalize (scanNum B E m).2.1 = B9 at *
            generalize (scanNum B E m).2.2 = E9 at *
            clear hS0 hS8 hS9 hs8 hk8 hr8 hr9 hk9 hkw hheap
            go_wp2
            refine hold_frame (p := fun fr => Code.wp Try.prog _ _ fr _) ?_
            intro fr hfr
            have e5 : fr.eval (.tmp 5) = .pointer (some ⟨s, 0, none⟩) := by rw [hfr.out]; rfl
            have e6 : fr.eval (.tmp 6) = .pointer (some ⟨x, 0, none⟩) := by rw [hfr.out]; rfl
            have hts : fr.tmps.size = 106 := by rw [hfr.out]; rfl
            refine region_S0 99 Try.mixed ?_
            intro w0 hkw hheap
            have hR0 := HR9.out.same hkw
            have hS0 : (fun U => U = w0) w0 := rfl
            refine ⟨(fun U => U = w0), ?_⟩
            refine tkS 0 68 (v := .pointer (some ⟨s, 0, none⟩)) hS0 rfl rfl (by kernel_rfl) (by kernel_rfl) (by kernel_rfl) (by kernel_rfl) (wanted_none rfl) (fun _ _ _ h => h) (fun U hU => r_move (by simp [eval_put_ne, eval_put_eq, size_put, hts, e5])) ?_
            refine tkS 2 70 (v := .pointer (some ⟨x, 0, none⟩)) hS0 rfl rfl (by kernel_rfl) (by kernel_rfl) (by kernel_rfl) (by kernel_rfl) (wanted_none rfl) (fun _ _ _ h => h) (fun U hU => r_move (by simp [eval_put_ne, eval_put_eq, size_put, hts, e6])) ?_
            refine tkS 3 71 (v := .pointer (some ⟨x, 0, none⟩)) hS0 rfl rfl (by kernel_rfl) (by kernel_rfl) (by kernel_rfl) (by kernel_rfl) (wanted_none rfl) (fun _ _ _ h => h) (fun U hU => r_nilChk (by simp [eval_put_ne, eval_put_eq, size_put, hts])) ?_
            refine tkS 4 72 (v := .pointer (some ⟨x, 1, none⟩)) hS0 rfl rfl (by kernel_rfl) (by kernel_rfl) (by kernel_rfl) (by kernel_rfl) (wanted_none rfl) (fun _ _ _ h => h) (fun U hU => r_fld42_1 (by simp [eval_put_ne, eval_put_eq, size_put, hts])) ?_
            refine tkS 5 73 (v := .int .i64 E9) hS0 rfl rfl (by kernel_rfl) (by kernel_rfl) (by kernel_rfl) (by kernel_rfl) (wanted_none rfl) (fun _ _ _ h => h) (fun U hU => r_ld3 (b := x) (o := 1) (by simp [eval_put_ne, eval_put_eq, size_put, hts]) (by rw [hU]; exact Blk.cell hR0.ref 1)) ?_
            refine oneCS 1 69 (by kernel_rfl) rfl rfl (wanted_none rfl) (r_call1 Try.func21 (by kernel_rfl) rfl rfl (by simp [eval_put_ne, eval_put_eq, size_put, hts])) (err_at w0 s v8 B9 E9 hR0.scan) ?_
            rintro e w10 ⟨rfl, hw10⟩
            subst hw10
            refine ⟨_, rfl, hS0, ?_⟩
            refine tkS 6 74 (v := .bool false) hS0 rfl rfl (by kernel_rfl) (by kernel_rfl) (by kernel_rfl) (by kernel_rfl) (wanted_none rfl) (fun _ _ _ h => h) (fun U hU => (r_neq3 (p := E9) (q := E9) (by simp [eval_put_ne, eval_put_eq, size_put, hts]) (by simp [eval_put_ne, eval_put_eq, size_put, hts])).trans (by simp)) ?_
            refine tkS 7 75 (v := .bool false) hS0 rfl rfl (by kernel_rfl) (by kernel_rfl) (by kernel_rfl) (by kernel_rfl) (wanted_none rfl) (fun _ _ _ h => h) (fun U hU => r_move (by simp [eval_put_ne, eval_put_eq, size_put, hts])) ?_
            refine tkS 8 76 (v := .pointer (some ⟨s, 0, none⟩)) hS0 rfl rfl (by kernel_rfl) (by kernel_rfl) (by kernel_rfl) (by kernel_rfl) (wanted_some (j := 7) (d := 75) (bb := false) rfl rfl rfl (by simp [eval_put_ne, eval_put_eq, size_put, hts]) (by simp [size_put, hts])) (fun _ _ _ h => h) (fun U hU => r_move (by simp [eval_put_ne, eval_put_eq, size_put, hts, e5])) ?_
            refine tkS 10 78 (v := .pointer (some ⟨x, 0, none⟩)) hS0 rfl rfl (by kernel_rfl) (by kernel_rfl) (by kernel_rfl) (by kernel_rfl) (wanted_some (j := 7) (d := 75) (bb := false) rfl rfl rfl (by simp [eval_put_ne, eval_put_eq, size_put, hts]) (by simp [size_put, hts])) (fun _ _ _ h => h) (fun U hU => r_move (by simp [eval_put_ne, eval_put_eq, size_put, hts, e6])) ?_
            refine tkS 11 79 (v := .pointer (some ⟨x, 0, none⟩)) hS0 rfl rfl (by kernel_rfl) (by kernel_rfl) (by kernel_rfl) (by kernel_rfl) (wanted_some (j := 7) (d := 75) (bb := false) rfl rfl rfl (by simp [eval_put_ne, eval_put_eq, size_put, hts]) (by simp [size_put, hts])) (fun _ _ _ h => h) (fun U hU => r_nilChk (by simp [eval_put_ne, eval_put_eq, size_put, hts])) ?_
            refine tkS 12 80 (v := .pointer (some ⟨x, 0, none⟩)) hS0 rfl rfl (by kernel_rfl) (by kernel_rfl) (by kernel_rfl) (by kernel_rfl) (wanted_some (j := 7) (d := 75) (bb := false) rfl rfl rfl (by simp [eval_put_ne, eval_put_eq, size_put, hts]) (by simp [size_put, hts])) (fun _ _ _ h => h) (fun U hU => r_fld42_0 (by simp [eval_put_ne, eval_put_eq, size_put, hts])) ?_
            refine tkS 13 81 (v := .string (strN B9)) hS0 rfl rfl (by kernel_rfl) (by kernel_rfl) (by kernel_rfl) (by kernel_rfl) (wanted_some (j := 7) (d := 75) (bb := false) rfl rfl rfl (by simp [eval_put_ne, eval_put_eq, size_put, hts]) (by simp [size_put, hts])) (fun _ _ _ h => h) (fun U hU => r_ld9 (b := x) (o := 0) (by simp [eval_put_ne, eval_put_eq, size_put, hts]) (by rw [hU]; exact Blk.cell hR0.ref 0)) ?_
            refine tkS 14 82 (v := .int .i64 (B9.length : Int)) hS0 rfl rfl (by kernel_rfl) (by kernel_rfl) (by kernel_rfl) (by kernel_rfl) (wanted_some (j := 7) (d := 75) (bb := false) rfl rfl rfl (by simp [eval_put_ne, eval_put_eq, size_put, hts]) (by simp [size_put, hts])) (fun _ _ _ h => h) (fun U hU => r_len9 (B := B9) (by simp [eval_put_ne, eval_put_eq, size_put, hts])) ?_
            refine oneCS 9 77 (by kernel_rfl) rfl rfl (wanted_some (j := 7) (d := 75) (bb := false) rfl rfl rfl (by simp [eval_put_ne, eval_put_eq, size_put, hts]) (by simp [size_put, hts])) (r_call1 Try.func22 (by kernel_rfl) rfl rfl (by simp [eval_put_ne, eval_put_eq, size_put, hts])) (left_at w0 s v8 B9 E9 hR0.scan) ?_
            rintro e w10 ⟨rfl, hw10⟩
            subst hw10
            refine ⟨_, rfl, hS0, ?_⟩
            refine tkS 15 83 (v := .bool false) hS0 rfl rfl (by kernel_rfl) (by kernel_rfl) (by kernel_rfl) (by kernel_rfl) (wanted_some (j := 7) (d := 75) (bb := false) rfl rfl rfl (by simp [eval_put_ne, eval_put_eq, size_put, hts]) (by simp [size_put, hts])) (fun _ _ _ h => h) (fun U hU => (r_neq3 (p := (B9.length : Int)) (q := (B9.length : Int)) (by simp [eval_put_ne, eval_put_eq, size_put, hts]) (by simp [eval_put_ne, eval_put_eq, size_put, hts])).trans (by simp)) ?_
            refine tkS 16 84 (v := .bool false) hS0 rfl rfl (by kernel_rfl) (by kernel_rfl) (by kernel_rfl) (by kernel_rfl) (wanted_none rfl) (fun _ _ _ h => h) (fun U hU => r_pickF (by simp [eval_put_ne, eval_put_eq, size_put, hts]) (by simp [eval_put_ne, eval_put_eq, size_put, hts])) ?_
            refine tkS 17 85 (v := .bool false) hS0 rfl rfl (by kernel_rfl) (by kernel_rfl) (by kernel_rfl) (by kernel_rfl) (wanted_none rfl) (fun _ _ _ h => h) (fun U hU => r_move (by simp [eval_put_ne, eval_put_eq, size_put, hts])) ?_
            refine tkS 18 86 (v := .pointer (some ⟨s, 0, none⟩)) hS0 rfl rfl (by kernel_rfl) (by kernel_rfl) (by kernel_rfl) (by kernel_rfl) (wanted_some (j := 17) (d := 85) (bb := false) rfl rfl rfl (by simp [eval_put_ne, eval_put_eq, size_put, hts]) (by simp [size_put, hts])) (fun _ _ _ h => h) (fun U hU => r_move (by simp [eval_put_ne, eval_put_eq, size_put, hts, e5])) ?_
            refine tkS 20 88 (v := .pointer (some ⟨x, 0, none⟩)) hS0 rfl rfl (by kernel_rfl) (by kernel_rfl) (by kernel_rfl) (by kernel_rfl) (wanted_some (j := 17) (d := 85) (bb := false) rfl rfl rfl (by simp [eval_put_ne, eval_put_eq, size_put, hts]) (by simp [size_put, hts])) (fun _ _ _ h => h) (fun U hU => r_move (by simp [eval_put_ne, eval_put_eq, size_put, hts, e6])) ?_
            refine oneCS 19 87 (by kernel_rfl) rfl rfl (wanted_some (j := 17) (d := 85) (bb := false) rfl rfl rfl (by simp [eval_put_ne, eval_put_eq, size_put, hts]) (by simp [size_put, hts])) (r_call1 Try.func23 (by kernel_rfl) rfl rfl (by simp [eval_put_ne, eval_put_eq, size_put, hts])) (noughts_at w0 s v8 B9 E9 hR0.scan (by omega)) ?_
            rintro e w10 ⟨rfl, hw10⟩
            subst hw10
            refine ⟨_, rfl, hS0, ?_⟩
            refine oneCS 21 89 (by kernel_rfl) rfl rfl (wanted_some (j := 17) (d := 85) (bb := false) rfl rfl rfl (by simp [eval_put_ne, eval_put_eq, size_put, hts]) (by simp [size_put, hts])) (r_call1 Try.func24 (by kernel_rfl) rfl rfl (by simp [eval_put_ne, eval_put_eq, size_put, hts])) (refnoughts_at w0 x B9 HBy9.out E9 hR0.ref (by omega)) ?_
            rintro e w10 ⟨rfl, hw10⟩
            subst hw10
            refine ⟨_, rfl, hS0, ?_⟩
            refine tkS 22 90 (v := .bool false) hS0 rfl rfl (by kernel_rfl) (by kernel_rfl) (by kernel_rfl) (by kernel_rfl) (wanted_some (j := 17) (d := 85) (bb := false) rfl rfl rfl (by simp [eval_put_ne, eval_put_eq, size_put, hts]) (by simp [size_put, hts])) (fun _ _ _ h => h) (fun U hU => (r_neq4 (p := noughtsN B9 E9) (q := noughtsN B9 E9) (by simp [eval_put_ne, eval_put_eq, size_put, hts]) (by simp [eval_put_ne, eval_put_eq, size_put, hts])).trans (by simp)) ?_
            refine tkS 23 91 (v := .bool false) hS0 rfl rfl (by kernel_rfl) (by kernel_rfl) (by kernel_rfl) (by kernel_rfl) (wanted_none rfl) (fun _ _ _ h => h) (fun U hU => r_pickF (by simp [eval_put_ne, eval_put_eq, size_put, hts]) (by simp [eval_put_ne, eval_put_eq, size_put, hts])) ?_
            refine doneS (by kernel_rfl) ?_
            rw [hfr.out]
            clear hfr e5 e6 hts
            simp only [put_lit, put_none, List.set_cons_succ, List.set_cons_zero]
            have HRf := hide hR0
            clear hR0 hS0 hkw hheap HR9
            generalize noughtsN B9 E9 = nb at *
            go_wp2
            go_roundw
            case rel => exact ⟨k + 1, v8, B9, E9, by omega, by omega, by go_num, HRf, hl9, HBy9⟩
            case measure => simp [intOf]; omega
          · skip
            go_wp2_with (first
              | (with_reducible refine aw_elem (o := ⟨kd, n, m, .slice bo Bo.length bc, Bo⟩) rfl Hcr.out ?_)
              | ((with_reducible refine aw_alloc (dst := some 9) Hi29.out Hz29.out ?_); intro w6 hw6 hk6 hz6; have Hz6 := hide hz6; clear hz6)
              | ((with_reducible refine aw_store (x := .tmp 9) (M := OpV.cells ⟨kd, n, m, .slice bo Bo.length bc, Bo⟩) Try.agg29 rfl rfl (OpV.cells_length _) H1.out hw6 (by simp [Value.cells]) ?_); intro w7 hw7 hk7 hz7; rw [put_whole _ _ (by simp [Value.cells, OpV.cells])] at hw7; have Hz7 := hide hz7; clear hz7; have c0 : w7.cell? ⟨wr.heap.size, 0, none⟩ = some (.int .i64 kd) := hw7.cell 0; have c1 : w7.cell? ⟨wr.heap.size, 1, none⟩ = some (.int .i64 n) := hw7.cell 1; have c2 : w7.cell? ⟨wr.heap.size, 2, none⟩ = some (.int .i64 m) := hw7.cell 2; have c3 : w7.cell? ⟨wr.heap.size, 3, none⟩ = some (.slice bo Bo.length bc) := hw7.cell 3))
            have hkk : Kept (fun _ => False) wr w7 := hk6.trans hk7 (fun i hi h => by omega)
            have hR7 := HR.out.same hkk
            clear HR
            have HR := hide hR7
            have HW7 := hide hw7
            have hobs : ¬ wr.heap.size = s := fun e => hw7.ne hR7.scan.1 (by decide) e
            have hobx : ¬ wr.heap.size = x := fun e => hw7.ne hR7.ref (by decide) e
            generalize wr.heap.size = ob at *
            clear hw6 hw7 hk6 hk7 hkk c0 c1 c2 c3 hR7
            refine hold_frame (p := fun fr => Code.wp Try.prog _ _ fr _) ?_
            intro fr hfr
            have e5 : fr.eval (.tmp 5) = .pointer (some ⟨s, 0, none⟩) := by rw [hfr.out]; rfl
            have e6 : fr.eval (.tmp 6) = .pointer (some ⟨x, 0, none⟩) := by rw [hfr.out]; rfl
            have e7 : fr.eval (.tmp 7) = .pointer none := by rw [hfr.out]; rfl
            have e9 : fr.eval (.tmp 9) = .pointer (some ⟨ob, 0, none⟩) := by rw [hfr.out]; rfl
            have hts : fr.tmps.size = 106 := by rw [hfr.out]; rfl
            refine region_S 99 (fun U => Blk U ob (OpV.cells ⟨kd, n, m, .slice bo Bo.length bc, Bo⟩) 29) Try.mixed ?_
            intro w0 hkw hheap
            have hS0 := hkw.blk HW7.out (fun h => h)
            refine tkS 0 50 (v := .pointer (some ⟨s, 0, none⟩)) hS0 rfl rfl (by kernel_rfl) (by kernel_rfl) (by kernel_rfl) (by kernel_rfl) (wanted_none rfl) (fun _ _ _ h => h) (fun U hU => r_move (by simp [eval_put_ne, eval_put_eq, size_put, hts, e5])) ?_
            refine tkS 1 51 (v := .pointer (some ⟨ob, 1, none⟩)) hS0 rfl rfl (by kernel_rfl) (by kernel_rfl) (by kernel_rfl) (by kernel_rfl) (wanted_none rfl) (fun _ _ _ h => h) (fun U hU => r_fld29_1 (by simp [eval_put_ne, eval_put_eq, size_put, hts, e9])) ?_
            refine tkS 2 52 (v := .int .i64 n) hS0 rfl rfl (by kernel_rfl) (by kernel_rfl) (by kernel_rfl) (by kernel_rfl) (wanted_none rfl) (fun _ _ _ h => h) (fun U hU => r_ld3 (by simp [eval_put_ne, eval_put_eq, size_put, hts]) (hU.cell 1)) ?_
            refine tkS 5 55 (v := .pointer (some ⟨x, 0, none⟩)) hS0 rfl rfl (by kernel_rfl) (by kernel_rfl) (by kernel_rfl) (by kernel_rfl) (wanted_none rfl) (fun _ _ _ h => h) (fun U hU => r_move (by simp [eval_put_ne, eval_put_eq, size_put, hts, e6])) ?_
            refine tkS 6 56 (v := .pointer (some ⟨ob, 1, none⟩)) hS0 rfl rfl (by kernel_rfl) (by kernel_rfl) (by kernel_rfl) (by kernel_rfl) (wanted_none rfl) (fun _ _ _ h => h) (fun U hU => r_fld29_1 (by simp [eval_put_ne, eval_put_eq, size_put, hts, e9])) ?_
            refine tkS 7 57 (v := .int .i64 n) hS0 rfl rfl (by kernel_rfl) (by kernel_rfl) (by kernel_rfl) (by kernel_rfl) (wanted_none rfl) (fun _ _ _ h => h) (fun U hU => r_ld3 (by simp [eval_put_ne, eval_put_eq, size_put, hts]) (hU.cell 1)) ?_
            refine oneCS 3 53 (by kernel_rfl) rfl rfl (wanted_none rfl) (r_call2 Try.func19 (by kernel_rfl) rfl rfl (by simp [eval_put_ne, eval_put_eq, size_put, hts]) (by simp [eval_put_ne, eval_put_eq, size_put, hts])) (stext_at w0 s v B E (HR.out.scan.kept hkw) (by omega) n) ?_
            rintro e w8 ⟨vr, v8, rfl, hsr, hs8, hk8⟩
            have hS8 := hk8.blk hS0 hobs
            have hr8 := hk8.blk (hkw.blk HR.out.ref (fun h => h)) HR.out.ne
            refine ⟨_, rfl, hS8, ?_⟩
            refine raiseM (S' := fun U => Blk U ob (OpV.cells ⟨kd, n, m, .slice bo Bo.length bc, Bo⟩) 29 ∧ Src U vr (scanText B E n).1) (fun U hU => hU.1) ?_
            have hT8 : (fun U => Blk U ob (OpV.cells ⟨kd, n, m, .slice bo Bo.length bc, Bo⟩) 29 ∧ Src U vr (scanText B E n).1) _ := ⟨hS8, hsr⟩
            refine tkS 4 54 (v := .string (strN (scanText B E n).1)) hT8 rfl rfl (by kernel_rfl) (by kernel_rfl) (by kernel_rfl) (by kernel_rfl) (wanted_none rfl) (fun _ _ _ h => h) (fun U hU => r_strS (v := vr) (by simp [eval_put_ne, eval_put_eq, size_put, hts]) hU.2) ?_
            refine oneCS 8 58 (by kernel_rfl) rfl rfl (wanted_none rfl) (r_call2 Try.func20 (by kernel_rfl) rfl rfl (by simp [eval_put_ne, eval_put_eq, size_put, hts]) (by simp [eval_put_ne, eval_put_eq, size_put, hts])) (reftext_at w8 x B HBy.out E hr8 (by omega) n) ?_
            rintro e w9 ⟨rfl, hr9, hk9⟩
            have hT9 : Blk w9 ob (OpV.cells ⟨kd, n, m, .slice bo Bo.length bc, Bo⟩) 29 ∧ Src w9 vr (scanText B E n).1 := ⟨hk9.blk hS8 hobx, hsr.keptBut hk9 (RefAt.nobyte hr8)⟩
            refine ⟨_, rfl, hT9, ?_⟩
            refine tkS 9 59 (v := .bool false) hT9 rfl rfl (by kernel_rfl) (by kernel_rfl) (by kernel_rfl) (by kernel_rfl) (wanted_none rfl) (fun _ _ _ h => h) (fun U hU => (r_neq9 (p := strN (scanText B E n).1) (q := strN (scanText B E n).1) (by simp [eval_put_ne, eval_put_eq, size_put, hts]) (by simp [eval_put_ne, eval_put_eq, size_put, hts])).trans (by simp)) ?_
            refine tkS 10 60 (v := .bool false) hT9 rfl rfl (by kernel_rfl) (by kernel_rfl) (by kernel_rfl) (by kernel_rfl) (wanted_none rfl) (fun _ _ _ h => h) (fun U hU => r_move (by simp [eval_put_ne, eval_put_eq, size_put, hts])) ?_
            refine tkS 11 61 (v := .pointer none) hT9 rfl rfl (by kernel_rfl) (by kernel_rfl) (by kernel_rfl) (by kernel_rfl) (wanted_some (j := 10) (d := 60) (bb := false) rfl rfl rfl (by simp [eval_put_ne, eval_put_eq, size_put, hts]) (by simp [size_put, hts])) (fun _ _ _ h => h) (fun U hU => r_move (by simp [eval_put_ne, eval_put_eq, size_put, hts, e7])) ?_
            refine tkS 12 62 (v := .pointer (some ⟨ob, 1, none⟩)) hT9 rfl rfl (by kernel_rfl) (by kernel_rfl) (by kernel_rfl) (by kernel_rfl) (wanted_some (j := 10) (d := 60) (bb := false) rfl rfl rfl (by simp [eval_put_ne, eval_put_eq, size_put, hts]) (by simp [size_put, hts])) (fun _ _ _ h => h) (fun U hU => r_fld29_1 (by simp [eval_put_ne, eval_put_eq, size_put, hts, e9])) ?_
            refine tkS 13 63 (v := .int .i64 n) hT9 rfl rfl (by kernel_rfl) (by kernel_rfl) (by kernel_rfl) (by kernel_rfl) (wanted_some (j := 10) (d := 60) (bb := false) rfl rfl rfl (by simp [eval_put_ne, eval_put_eq, size_put, hts]) (by simp [size_put, hts])) (fun _ _ _ h => h) (fun U hU => r_ld3 (by simp [eval_put_ne, eval_put_eq, size_put, hts]) (hU.1.cell 1)) ?_
            refine oneCS 14 64 (by kernel_rfl) rfl rfl (wanted_some (j := 10) (d := 60) (bb := false) rfl rfl rfl (by simp [eval_put_ne, eval_put_eq, size_put, hts]) (by simp [size_put, hts])) (r_call2 Try.func19 (by kernel_rfl) rfl rfl (by simp [eval_put_ne, eval_put_eq, size_put, hts]) (by simp [eval_put_ne, eval_put_eq, size_put, hts])) (stext_nil w9 n) ?_
            rintro e w10 ⟨rfl, rfl⟩
            refine ⟨_, rfl, hT9, ?_⟩
            refine tkS 15 65 (v := .int .i64 ((0 : Nat) : Int)) hT9 rfl rfl (by kernel_rfl) (by kernel_rfl) (by kernel_rfl) (by kernel_rfl) (wanted_some (j := 10) (d := 60) (bb := false) rfl rfl rfl (by simp [eval_put_ne, eval_put_eq, size_put, hts]) (by simp [size_put, hts])) (fun _ _ _ h => h) (fun U hU => r_len25 (ao := none) (l := 0) (c := 0) (by simp [eval_put_ne, eval_put_eq, size_put, hts])) ?_
            refine tkS 16 66 (v := .bool false) hT9 rfl rfl (by kernel_rfl) (by kernel_rfl) (by kernel_rfl) (by kernel_rfl) (wanted_some (j := 10) (d := 60) (bb := false) rfl rfl rfl (by simp [eval_put_ne, eval_put_eq, size_put, hts]) (by simp [size_put, hts])) (fun _ _ _ h => h) (fun U hU => (r_neq3 (p := ((0 : Nat) : Int)) (q := 0) (by simp [eval_put_ne, eval_put_eq, size_put, hts]) rfl).trans (by simp)) ?_
            refine tkS 17 67 (v := .bool false) hT9 rfl rfl (by kernel_rfl) (by kernel_rfl) (by kernel_rfl) (by kernel_rfl) (wanted_none rfl) (fun _ _ _ h => h) (fun U hU => r_pickF (by simp [eval_put_ne, eval_put_eq, size_put, hts]) (by simp [eval_put_ne, eval_put_eq, size_put, hts])) ?_
            refine doneS (by kernel_rfl) ?_
            rw [hfr.out]
            clear hfr e5 e6 e7 e9 hts
            simp only [put_lit, put_none, List.set_cons_succ, List.set_cons_zero]
            have HR9 := hide ((HR.out.same hkw).step hs8 hk8 hr9 hk9)
            have hl9 : (scanText B E n).2.1.length ≤ 2000 := Nat.le_trans (scanText_len B E n) hBl
            have HBy9 := hide (scanText_lt (E := E) (m := n) HBy.out).2
            clear hS0 hS8 hT8 hT9 hs8 hk8 hr8 hr9 hk9 hkw hheap hsr
            generalize strN (scanText B E n).1 = sx at *
            generalize (scanText B E n).2.1 = B9 at *
            generalize (scanText B E n).2.2 = E9 at *
            go_wp2
            refine hold_frame (p := fun fr => Code.wp Try.prog _ _ fr _) ?_
            intro fr hfr
            have e5 : fr.eval (.tmp 5) = .pointer (some ⟨s, 0, none⟩) := by rw [hfr.out]; rfl
            have e6 : fr.eval (.tmp 6) = .pointer (some ⟨x, 0, none⟩) := by rw [hfr.out]; rfl
            have hts : fr.tmps.size = 106 := by rw [hfr.out]; rfl
            refine region_S0 99 Try.mixed ?_
            intro w0 hkw hheap
            have hR0 := HR9.out.same hkw
            have hS0 : (fun U => U = w0) w0 := rfl
            refine ⟨(fun U => U = w0), ?_⟩
            refine tkS 0 68 (v := .pointer (some ⟨s, 0, none⟩)) hS0 rfl rfl (by kernel_rfl) (by kernel_rfl) (by kernel_rfl) (by kernel_rfl) (wanted_none rfl) (fun _ _ _ h => h) (fun U hU => r_move (by simp [eval_put_ne, eval_put_eq, size_put, hts, e5])) ?_
            refine tkS 2 70 (v := .pointer (some ⟨x, 0, none⟩)) hS0 rfl rfl (by kernel_rfl) (by kernel_rfl) (by kernel_rfl) (by kernel_rfl) (wanted_none rfl) (fun _ _ _ h => h) (fun U hU => r_move (by simp [eval_put_ne, eval_put_eq, size_put, hts, e6])) ?_
            refine tkS 3 71 (v := .pointer (some ⟨x, 0, none⟩)) hS0 rfl rfl (by kernel_rfl) (by kernel_rfl) (by kernel_rfl) (by kernel_rfl) (wanted_none rfl) (fun _ _ _ h => h) (fun U hU => r_nilChk (by simp [eval_put_ne, eval_put_eq, size_put, hts])) ?_
            refine tkS 4 72 (v := .pointer (some ⟨x, 1, none⟩)) hS0 rfl rfl (by kernel_rfl) (by kernel_rfl) (by kernel_rfl) (by kernel_rfl) (wanted_none rfl) (fun _ _ _ h => h) (fun U hU => r_fld42_1 (by simp [eval_put_ne, eval_put_eq, size_put, hts])) ?_
            refine tkS 5 73 (v := .int .i64 E9) hS0 rfl rfl (by kernel_rfl) (by kernel_rfl) (by kernel_rfl) (by kernel_rfl) (wanted_none rfl) (fun _ _ _ h => h) (fun U hU => r_ld3 (b := x) (o := 1) (by simp [eval_put_ne, eval_put_eq, size_put, hts]) (by rw [hU]; exact Blk.cell hR0.ref 1)) ?_
            refine oneCS 1 69 (by kernel_rfl) rfl rfl (wanted_none rfl) (r_call1 Try.func21 (by kernel_rfl) rfl rfl (by simp [eval_put_ne, eval_put_eq, size_put, hts])) (err_at w0 s v8 B9 E9 hR0.scan) ?_
            rintro e w10 ⟨rfl, hw10⟩
            subst hw10
            refine ⟨_, rfl, hS0, ?_⟩
            refine tkS 6 74 (v := .bool false) hS0 rfl rfl (by kernel_rfl) (by kernel_rfl) (by kernel_rfl) (by kernel_rfl) (wanted_none rfl) (fun _ _ _ h => h) (fun U hU => (r_neq3 (p := E9) (q := E9) (by simp [eval_put_ne, eval_put_eq, size_put, hts]) (by simp [eval_put_ne, eval_put_eq, size_put, hts])).trans (by simp)) ?_
            refine tkS 7 75 (v := .bool false) hS0 rfl rfl (by kernel_rfl) (by kernel_rfl) (by kernel_rfl) (by kernel_rfl) (wanted_none rfl) (fun _ _ _ h => h) (fun U hU => r_move (by simp [eval_put_ne, eval_put_eq, size_put, hts])) ?_
            refine tkS 8 76 (v := .pointer (some ⟨s, 0, none⟩)) hS0 rfl rfl (by kernel_rfl) (by kernel_rfl) (by kernel_rfl) (by kernel_rfl) (wanted_some (j := 7) (d := 75) (bb := false) rfl rfl rfl (by simp [eval_put_ne, eval_put_eq, size_put, hts]) (by simp [size_put, hts])) (fun _ _ _ h => h) (fun U hU => r_move (by simp [eval_put_ne, eval_put_eq, size_put, hts, e5])) ?_
            refine tkS 10 78 (v := .pointer (some ⟨x, 0, none⟩)) hS0 rfl rfl (by kernel_rfl) (by kernel_rfl) (by kernel_rfl) (by kernel_rfl) (wanted_some (j := 7) (d := 75) (bb := false) rfl rfl rfl (by simp [eval_put_ne, eval_put_eq, size_put, hts]) (by simp [size_put, hts])) (fun _ _ _ h => h) (fun U hU => r_move (by simp [eval_put_ne, eval_put_eq, size_put, hts, e6])) ?_
            refine tkS 11 79 (v := .pointer (some ⟨x, 0, none⟩)) hS0 rfl rfl (by kernel_rfl) (by kernel_rfl) (by kernel_rfl) (by kernel_rfl) (wanted_some (j := 7) (d := 75) (bb := false) rfl rfl rfl (by simp [eval_put_ne, eval_put_eq, size_put, hts]) (by simp [size_put, hts])) (fun _ _ _ h => h) (fun U hU => r_nilChk (by simp [eval_put_ne, eval_put_eq, size_put, hts])) ?_
            refine tkS 12 80 (v := .pointer (some ⟨x, 0, none⟩)) hS0 rfl rfl (by kernel_rfl) (by kernel_rfl) (by kernel_rfl) (by kernel_rfl) (wanted_some (j := 7) (d := 75) (bb := false) rfl rfl rfl (by simp [eval_put_ne, eval_put_eq, size_put, hts]) (by simp [size_put, hts])) (fun _ _ _ h => h) (fun U hU => r_fld42_0 (by simp [eval_put_ne, eval_put_eq, size_put, hts])) ?_
            refine tkS 13 81 (v := .string (strN B9)) hS0 rfl rfl (by kernel_rfl) (by kernel_rfl) (by kernel_rfl) (by kernel_rfl) (wanted_some (j := 7) (d := 75) (bb := false) rfl rfl rfl (by simp [eval_put_ne, eval_put_eq, size_put, hts]) (by simp [size_put, hts])) (fun _ _ _ h => h) (fun U hU => r_ld9 (b := x) (o := 0) (by simp [eval_put_ne, eval_put_eq, size_put, hts]) (by rw [hU]; exact Blk.cell hR0.ref 0)) ?_
            refine tkS 14 82 (v := .int .i64 (B9.length : Int)) hS0 rfl rfl (by kernel_rfl) (by kernel_rfl) (by kernel_rfl) (by kernel_rfl) (wanted_some (j := 7) (d := 75) (bb := false) rfl rfl rfl (by simp [eval_put_ne, eval_put_eq, size_put, hts]) (by simp [size_put, hts])) (fun _ _ _ h => h) (fun U hU => r_len9 (B := B9) (by simp [eval_put_ne, eval_put_eq, size_put, hts])) ?_
            refine oneCS 9 77 (by kernel_rfl) rfl rfl (wanted_some (j := 7) (d := 75) (bb := false) rfl rfl rfl (by simp [eval_put_ne, eval_put_eq, size_put, hts]) (by simp [size_put, hts])) (r_call1 Try.func22 (by kernel_rfl) rfl rfl (by simp [eval_put_ne, eval_put_eq, size_put, hts])) (left_at w0 s v8 B9 E9 hR0.scan) ?_
            rintro e w10 ⟨rfl, hw10⟩
            subst hw10
            refine ⟨_, rfl, hS0, ?_⟩
            refine tkS 15 83 (v := .bool false) hS0 rfl rfl (by kernel_rfl) (by kernel_rfl) (by kernel_rfl) (by kernel_rfl) (wanted_some (j := 7) (d := 75) (bb := false) rfl rfl rfl (by simp [eval_put_ne, eval_put_eq, size_put, hts]) (by simp [size_put, hts])) (fun _ _ _ h => h) (fun U hU => (r_neq3 (p := (B9.length : Int)) (q := (B9.length : Int)) (by simp [eval_put_ne, eval_put_eq, size_put, hts]) (by simp [eval_put_ne, eval_put_eq, size_put, hts])).trans (by simp)) ?_
            refine tkS 16 84 (v := .bool false) hS0 rfl rfl (by kernel_rfl) (by kernel_rfl) (by kernel_rfl) (by kernel_rfl) (wanted_none rfl) (fun _ _ _ h => h) (fun U hU => r_pickF (by simp [eval_put_ne, eval_put_eq, size_put, hts]) (by simp [eval_put_ne, eval_put_eq, size_put, hts])) ?_
            refine tkS 17 85 (v := .bool false) hS0 rfl rfl (by kernel_rfl) (by kernel_rfl) (by kernel_rfl) (by kernel_rfl) (wanted_none rfl) (fun _ _ _ h => h) (fun U hU => r_move (by simp [eval_put_ne, eval_put_eq, size_put, hts])) ?_
            refine tkS 18 86 (v := .pointer (some ⟨s, 0, none⟩)) hS0 rfl rfl (by kernel_rfl) (by kernel_rfl) (by kernel_rfl) (by kernel_rfl) (wanted_some (j := 17) (d := 85) (bb := false) rfl rfl rfl (by simp [eval_put_ne, eval_put_eq, size_put, hts]) (by simp [size_put, hts])) (fun _ _ _ h => h) (fun U hU => r_move (by simp [eval_put_ne, eval_put_eq, size_put, hts, e5])) ?_
            refine tkS 20 88 (v := .pointer (some ⟨x, 0, none⟩)) hS0 rfl rfl (by kernel_rfl) (by kernel_rfl) (by kernel_rfl) (by kernel_rfl) (wanted_some (j := 17) (d := 85) (bb := false) rfl rfl rfl (by simp [eval_put_ne, eval_put_eq, size_put, hts]) (by simp [size_put, hts])) (fun _ _ _ h => h) (fun U hU => r_move (by simp [eval_put_ne, eval_put_eq, size_put, hts, e6])) ?_
            refine oneCS 19 87 (by kernel_rfl) rfl rfl (wanted_some (j := 17) (d := 85) (bb := false) rfl rfl rfl (by simp [eval_put_ne, eval_put_eq, size_put, hts]) (by simp [size_put, hts])) (r_call1 Try.func23 (by kernel_rfl) rfl rfl (by simp [eval_put_ne, eval_put_eq, size_put, hts])) (noughts_at w0 s v8 B9 E9 hR0.scan (by omega)) ?_
            rintro e w10 ⟨rfl, hw10⟩
            subst hw10
            refine ⟨_, rfl, hS0, ?_⟩
            refine oneCS 21 89 (by kernel_rfl) rfl rfl (wanted_some (j := 17) (d := 85) (bb := false) rfl rfl rfl (by simp [eval_put_ne, eval_put_eq, size_put, hts]) (by simp [size_put, hts])) (r_call1 Try.func24 (by kernel_rfl) rfl rfl (by simp [eval_put_ne, eval_put_eq, size_put, hts])) (refnoughts_at w0 x B9 HBy9.out E9 hR0.ref (by omega)) ?_
            rintro e w10 ⟨rfl, hw10⟩
            subst hw10
            refine ⟨_, rfl, hS0, ?_⟩
            refine tkS 22 90 (v := .bool false) hS0 rfl rfl (by kernel_rfl) (by kernel_rfl) (by kernel_rfl) (by kernel_rfl) (wanted_some (j := 17) (d := 85) (bb := false) rfl rfl rfl (by simp [eval_put_ne, eval_put_eq, size_put, hts]) (by simp [size_put, hts])) (fun _ _ _ h => h) (fun U hU => (r_neq4 (p := noughtsN B9 E9) (q := noughtsN B9 E9) (by simp [eval_put_ne, eval_put_eq, size_put, hts]) (by simp [eval_put_ne, eval_put_eq, size_put, hts])).trans (by simp)) ?_
            refine tkS 23 91 (v := .bool false) hS0 rfl rfl (by kernel_rfl) (by kernel_rfl) (by kernel_rfl) (by kernel_rfl) (wanted_none rfl) (fun _ _ _ h => h) (fun U hU => r_pickF (by simp [eval_put_ne, eval_put_eq, size_put, hts]) (by simp [eval_put_ne, eval_put_eq, size_put, hts])) ?_
            refine doneS (by kernel_rfl) ?_
            rw [hfr.out]
            clear hfr e5 e6 hts
            simp only [put_lit, put_none, List.set_cons_succ, List.set_cons_zero]
            have HRf := hide hR0
            clear hR0 hS0 hkw hheap HR9
            generalize noughtsN B9 E9 = nb at *
            go_wp2
            go_roundw
            case rel => exact ⟨k + 1, v8, B9, E9, by omega, by omega, by go_num, HRf, hl9, HBy9⟩
            case measure => simp [intOf]; omega
        · obtain rfl : k = 60 := by omega
          go_wp2_with (first
            | (with_reducible refine aw_elem (o := ⟨kd, n, m, .slice bo Bo.length bc, Bo⟩) rfl Hcr.out ?_)
            | ((with_reducible refine aw_alloc (dst := some 9) Hi29.out Hz29.out ?_); intro w6 hw6 hk6 hz6; have Hz6 := hide hz6; clear hz6)
            | ((with_reducible refine aw_store (x := .tmp 9) (M := OpV.cells ⟨kd, n, m, .slice bo Bo.length bc, Bo⟩) Try.agg29 rfl rfl (OpV.cells_length _) H1.out hw6 (by simp [Value.cells]) ?_); intro w7 hw7 hk7 hz7; rw [put_whole _ _ (by simp [Value.cells, OpV.cells])] at hw7; have Hz7 := hide hz7; clear hz7; have c0 : w7.cell? ⟨wr.heap.size, 0, none⟩ = some (.int .i64 kd) := hw7.cell 0; have c1 : w7.cell? ⟨wr.heap.size, 1, none⟩ = some (.int .i64 n) := hw7.cell 1; have c2 : w7.cell? ⟨wr.heap.size, 2, none⟩ = some (.int .i64 m) := hw7.cell 2; have c3 : w7.cell? ⟨wr.heap.size, 3, none⟩ = some (.slice bo Bo.length bc) := hw7.cell 3))
          have hkF : Kept (fun _ => False) w w7 := (HR.out.kept.trans hk6 (fun _ _ h => h)).trans hk7 (fun i hi h => by have := HR.out.kept.size; omega)
          refine (err_nil w7).mono ?_
          rintro e w9 ⟨rfl, rfl⟩
          go_wp2_with fail
          refine (left_nil w7).mono ?_
          rintro e w9 ⟨rfl, rfl⟩
          go_wp2_with fail
          refine (noughts_nil w7).mono ?_
          rintro e w9 ⟨rfl, rfl⟩
          go_wp2
          go_ret
          exact ⟨rfl, hkF⟩
      · obtain rfl : k = len := by omega
        have hkF := HR.out.kept
        clear HR
        go_wp2_with fail
        refine (err_nil wr).mono ?_
        rintro e w9 ⟨rfl, rfl⟩
        go_wp2_with fail
        refine (left_nil wr).mono ?_
        rintro e w9 ⟨rfl, rfl⟩
        go_wp2_with fail
        refine (noughts_nil wr).mono ?_
        rintro e w9 ⟨rfl, rfl⟩
        go_wp2
        go_ret
        exact ⟨rfl, hkF⟩

end Go.Proofs.Yteffiglfeenokaa
