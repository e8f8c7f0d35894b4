/-
  The document's Save, walked.
-/
import Derived.Test.YtnlcmgdeohbmoaaJ42
import Derived.Laws.IdiomStrings
namespace Go.Proofs.Ytnlcmgdeohbmoaa
open Go.RowKit Go.Shelf
set_option linter.unusedSimpArgs false
set_option linter.unusedVariables false
set_option maxRecDepth 100000

theorem strN_rowP (B : List Nat) (hB : ∀ x ∈ B, x < 256) (cap j : Nat) (v : Value) (hj : (BV B)[j]? = some v) : (bytesRow (strN B) cap)[j]? = some v := by
  obtain ⟨hlt, he⟩ := List.getElem?_eq_some_iff.1 hj
  rw [BV_length] at hlt
  have hs : j < (strN B).data.size := by rw [strN_data]; simpa using hlt
  rw [bytesRow_at (strN B) cap j hs]
  have hd : (strN B).data[j] = UInt8.ofNat B[j] := by
    simp only [strN_data, List.getElem_toArray, List.getElem_map]
  rw [hd, ← he]
  have h := hB B[j] (List.getElem_mem _)
  have : (UInt8.ofNat B[j]).toNat = B[j] := by simp [UInt8.toNat_ofNat']; omega
  rw [this]
  simp [BV]
/-- A text's bytes, in new memory. -/
theorem bytes_newP (w : World) (B : List Nat) (hB : ∀ x ∈ B, x < 256) : ∃ w' cap, (convert 9 41 (.string (strN B))).run Try.prog w = .ok (.slice (some ⟨w.heap.size, 0, none⟩) B.length cap) w' ∧ B.length ≤ cap ∧ Cells w' w.heap.size 0 (BV B) ∧ Kept (fun _ => False) w w' := by
  have hrun := run_bytes_of_string (P := Try.prog) w 9 41 5 (strN B) Try.underlying9 Try.underlying41 Try.underlying5
  rw [strN_size] at hrun
  have hge := grownCap_ge w B.length 0 5
  refine ⟨_, _, hrun, hge, ?_, ?_⟩
  · intro j v hj
    rw [Nat.zero_add]
    have := World.cell?_alloc_mark w.drew (bytesRow (strN B) (grownCap w B.length 0 5)) 5 ((bytesRow (strN B) (grownCap w B.length 0 5)).size, (bytesRow (strN B) (grownCap w B.length 0 5)).size + 1) j
    exact this.trans (strN_rowP B hB _ j v hj)
  · exact ((Kept.refl (fun _ => False) w).drew).trans (Kept.alloc _ w.drew _) (fun _ _ h => h)
/-- What all reads of a turn want. -/
structure SvS (b hg : Nat) (fv hv dv : Value) (RH : List Value) (U : World) : Prop where
  hb : Blk U hg RH 9
  pb : ∃ L, Blk U b L 37 ∧ L.drop 5 = [fv, hv, dv]
section
variable {b hg : Nat} {fv hv dv : Value} {RH : List Value} {U U' : World}
theorem SvS.c5 (h : SvS b hg fv hv dv RH U) : U.cell? ⟨b, 5, none⟩ = some fv := by
  obtain ⟨L, hb, hd⟩ := h.pb
  rw [hb.cell]
  have := List.getElem?_drop (xs := L) (i := 5) (j := 0)
  rw [hd] at this
  exact this.symm
theorem SvS.c6 (h : SvS b hg fv hv dv RH U) : U.cell? ⟨b, 6, none⟩ = some hv := by
  obtain ⟨L, hb, hd⟩ := h.pb
  rw [hb.cell]
  have := List.getElem?_drop (xs := L) (i := 5) (j := 1)
  rw [hd] at this
  exact this.symm
theorem SvS.kept (h : SvS b hg fv hv dv RH U) (hk : Kept (fun _ => False) U U') : SvS b hg fv hv dv RH U' := by
  obtain ⟨L, hb, hd⟩ := h.pb
  exact ⟨hk.blk h.hb (fun h => h), L, hk.blk hb (fun h => h), hd⟩
end
section
variable {ρ : Operand → Value} {w w' : World} {dst : Option Tmp} {ty : TypeId} {pos : String} {aft : Array Edge} {gd : Option (Nat × Bool)} {x y z : Operand}
theorem r_fR0 {b : Nat} (hx : ρ x = .pointer (some ⟨b, 0, none⟩)) : (execOp ρ ⟨dst, .fieldAddr 37 x 0, ty, pos, aft, gd⟩).run Try.prog w = .ok (.value (.pointer (some ⟨b, 0, none⟩))) w := by
  go_simp
theorem r_fR1 {b : Nat} (hx : ρ x = .pointer (some ⟨b, 0, none⟩)) : (execOp ρ ⟨dst, .fieldAddr 37 x 1, ty, pos, aft, gd⟩).run Try.prog w = .ok (.value (.pointer (some ⟨b, 5, none⟩))) w := by
  go_simp
theorem r_fR2 {b : Nat} (hx : ρ x = .pointer (some ⟨b, 0, none⟩)) : (execOp ρ ⟨dst, .fieldAddr 37 x 2, ty, pos, aft, gd⟩).run Try.prog w = .ok (.value (.pointer (some ⟨b, 6, none⟩))) w := by
  go_simp
theorem r_ldR34 {p : Addr} {v : Value} (hx : ρ x = .pointer (some p)) (hc : w.cell? p = some v) : (execOp ρ ⟨dst, .load 34 x, ty, pos, aft, gd⟩).run Try.prog w = .ok (.value v) w := by
  go_simp
theorem r_ldR9 {p : Addr} {v : Value} (hx : ρ x = .pointer (some p)) (hc : w.cell? p = some v) : (execOp ρ ⟨dst, .load 9 x, ty, pos, aft, gd⟩).run Try.prog w = .ok (.value v) w := by
  go_simp
theorem r_ixR {b len cap : Nat} (i : Nat) (hx : ρ x = .slice (some ⟨b, 0, none⟩) len cap) (hy : ρ y = .int .i64 i) (hi : i < len) :
    (execOp ρ ⟨dst, .indexAddr 34 x y, ty, pos, aft, gd⟩).run Try.prog w = .ok (.value (.pointer (some ⟨b, i, none⟩))) w := by
  have h1 : (i : Int) < len := by omega
  go_simp
theorem r_cvR {B : ByteArray} {v : Value} (hx : ρ x = .string B) (hr : (convert 9 41 (.string B)).run Try.prog w = .ok v w') :
    (execOp ρ ⟨dst, .convert 9 41 x, ty, pos, aft, gd⟩).run Try.prog w = .ok (.value v) w' := by
  simp [execOp, hx, hr]
theorem r_ldD {b : Nat} {s : D.DS} {rv hv dv : Value} {fr : Nat} (hx : ρ x = .pointer (some ⟨b, 0, none⟩)) (hb : Blk w b (refPL s rv fr hv dv) 37) : (execOp ρ ⟨dst, .load 33 x, ty, pos, aft, gd⟩).run Try.prog w = .ok (.value (D.refA s rv)) w :=
  run_load_agg (dst := dst) (ty := ty) (pos := pos) (aft := aft) (gd := gd) D.Try.agg33 hx hb (by rw [refPL_len]; decide)
end
theorem cell_keptF {w w' : World} {b o : Nat} {v : Value} (hk : Kept (fun _ => False) w w') (c : w.cell? ⟨b, o, none⟩ = some v) : w'.cell? ⟨b, o, none⟩ = some v :=
  (World.cell?_of_block (hk.block b (World.block_lt_of_cell? w _ c) (fun h => h))).trans c

set_option maxHeartbeats 8000000 in
theorem rpsave_at (w : World) (N nd : Nat) (s : D.DS) (rv : Value) (fr n : Nat) (hv dv : Value) (H : List (List Nat)) (T : List Bool) (h : RfP w N nd s rv fr n hv dv H T) (hN : N ≤ w.heap.size) (hWh : Whole H T) (hc : s.calls ≤ 1000000000) (hws : s.ws.length ≤ 100000000) :
    Calls Try.prog 19 #[refP s rv fr hv dv] w fun e w' => ∃ rv' dv', e = .returned (.tuple #[refP (svD fr n H T s) rv' fr hv dv', .int .i64 (svE fr n H T s)]) ∧ RfP w' N nd (svD fr n H T s) rv' fr n hv dv' H (svT fr n H T s) ∧ Kept (fun _ => False) w w' := by
  obtain ⟨hHl, hTl⟩ := h.lens
  have hn := h.n64
  have HH := hide h
  have HN := hide hN
  have HWhole := hide hWh
  have HCa := hide hc
  have HWs := hide hws
  have hfit := h.fit
  have hn2 := h.dok.n2
  obtain ⟨ro0, rc0, rfl⟩ := h.wt.slice
  obtain ⟨hg, hcap, CH, rfl, hhb, -⟩ := id h.hh
  obtain ⟨dg, dcap, CT, rfl, hdb, -⟩ := id h.hd
  have Hhb := hide hhb
  have Hdb := hide hdb
  have Hn := hide hn
  have HHl := hide hHl
  have HTl := hide hTl
  have HFit := hide hfit
  have HN2 := hide hn2
  obtain ⟨rv, hrv⟩ : ∃ rv, rv = Value.slice ro0 s.ws.length rc0 := ⟨_, rfl⟩
  have Hrv := hide hrv
  obtain ⟨i0, hi0, hz0, hs0, hb0⟩ := info_parts Try.info37
  have Hi0 := hide hi0
  have Hz0 := hide hz0
  obtain ⟨i4, hi4, hz4, hs4, hb4⟩ := info_parts Try.info4
  have Hi4 := hide hi4
  have Hz4 := hide hz4
  have Hs4 := hide hs4
  have Hb4 := hide hb4
  obtain ⟨i35, hi35, hz35, hs35, hb35⟩ := info_parts Try.info35
  have Hi35 := hide hi35
  have Hs35 := hide hs35
  rw [← hrv]
  have HH1 := HH.out
  rw [← hrv] at HH1
  have HH := hide HH1
  clear h hN hWh hc hws hHl hTl hhb hdb hfit hn2 hrv hi0 hz0 hs0 hb0 hi4 hz4 hs4 hb4 hi35 hz35 hs35 hb35 HH1
  obtain ⟨hvs, hhvs⟩ : ∃ v, v = Value.slice (some ⟨hg, 0, none⟩) n hcap := ⟨_, rfl⟩
  obtain ⟨dvs, hdvs⟩ : ∃ v, v = Value.slice (some ⟨dg, 0, none⟩) n dcap := ⟨_, rfl⟩
  have Hhvs := hide hhvs
  have Hdvs := hide hdvs
  obtain ⟨v, hv⟩ : ∃ v, v = refP s rv fr hvs dvs := ⟨_, rfl⟩
  have Hv := hide hv
  rw [← hhvs, ← hdvs, ← hv]
  have HH1 := HH.out
  rw [← hhvs, ← hdvs] at HH1
  have HH := hide HH1
  clear hv hhvs hdvs HH1
  go_enter Try.func19, Try.ntmps19
  go_wp2_with (first
    | ((with_reducible refine aw_box (t := 37) rfl ?_); intro w1 hw1 hk1 hz1; have HK1 := hide hk1; have HZ1 := hide hz1; rw [Hv.out] at hw1; have HW1 : Hid (Blk w1 w.heap.size (refPL s rv fr hvs dvs) 37) := hide hw1; clear hw1 hk1 hz1)
    | ((with_reducible refine aw_alloc (t := 37) (dst := some 2) Hi0.out Hz0.out ?_); intro w2 hw2 hk2 hz2; have HK2 := hide (HK1.out.trans hk2 (fun _ _ h => h)); have HZ2 := hide hz2; have HR2 := hide hw2; have HW2 := hide (hk2.blk HW1.out (fun h => h)); have c7 : w2.cell? ⟨w.heap.size, 7, none⟩ = some (.slice (some ⟨dg, 0, none⟩) n dcap) := (HW2.out.cell 7).trans (by rw [← Hdvs.out]; rfl); clear hw2 hk2 hz2)
    | fail)
  go_loopw [4, 10] (fun e i wr => ∃ (k : Nat) (X : D.DS × Int) (rv1 : Value), Hid (svN fr H T s k = X) ∧ e = .int .i64 X.2 ∧ i = .int .i64 k ∧ k ≤ n ∧ Hid (Blk wr w.heap.size (refPL X.1 rv1 fr hvs dvs) 37) ∧ Hid (WtAt wr rv1 X.1) ∧ Hid (Kept (fun j => j = w.heap.size) w2 wr)) (fun _ i _ => n - (intOf i).toNat)
  case atStart => exact ⟨0, (s, 0), rv, hide rfl, rfl, rfl, Nat.zero_le _, HW2, hide (HH.out.wt.kept HK2.out), hide (Kept.refl _ _)⟩
  case round =>
    obtain ⟨k, ⟨s1, E⟩, rv1, HX, rfl, rfl, hk, HW, HWt, HK⟩ := hrel
    have HK0 : Hid (Kept (fun _ => False) w wr) := hide (HK2.out.trans HK.out (fun i hi e => by omega))
    have HBd : Hid (s1.calls ≤ s.calls + k ∧ s1.ws.length ≤ s.ws.length + k) := hide (by have := svN_bound fr H T s k; rw [HX.out] at this; exact this)
    have HOk : Hid (DOk s1 nd) := hide (by have := svN_ok (fr := fr) HH.out.dok HWhole.out k (by have := HFit.out; omega); rw [HX.out] at this; exact this)
    have hEc : E = 0 ∨ E = 10 := by have := svN_cases fr H T s k; rw [HX.out] at this; exact this
    clear c7
    by_cases hlt : k < n
    · have hltI : (k : Int) < (n : Int) := by omega
      have hHk : k < H.length := by rw [HHl.out]; exact hlt
      have hTk : k < T.length := by rw [HTl.out]; exact hlt
      have c0 : wr.cell? ⟨dg, k, none⟩ = some (.bool (T.getD k false)) := by
        rw [(HK0.out.blk Hdb.out (fun h => h)).cell, List.getElem?_append_left (by rw [TV_length]; exact hTk), TV_get hTk]
        simp [hTk]
      have HStep := hide (show svN fr H T s (k + 1) = svStep fr H T k (s1, E) by show svStep fr H T k (svN fr H T s k) = _; rw [HX.out])
      have HHk := hide hHk
      have Hlt := hide hlt
      clear hHk hTk
      cases hb : T.getD k false with
      | false =>
        rw [hb] at c0
        have HX2 : Hid (svN fr H T s (k + 1) = (s1, E)) := hide (by rw [HStep.out]; unfold svStep; rw [if_neg (by rw [hb]; simp)])
        clear hb hEc
        go_wp2
        go_roundw
        case rel => exact ⟨k + 1, (s1, E), rv1, HX2, rfl, by simp, by omega, HW, HWt, HK⟩
        case measure => simp [intOf]; omega
      | true =>
        rw [hb] at c0
        rcases hEc with hE | hE
        · subst hE
          obtain ⟨B, hB⟩ : ∃ B, B = H.getD k [] := ⟨_, rfl⟩
          have HX2 : Hid (svN fr H T s (k + 1) = (wDev s1 (fr + k) 1 B, wErr s1)) := hide (by rw [HStep.out, hB]; unfold svStep; rw [if_pos ⟨hb, rfl⟩])
          have HBl : Hid (B.length = 64 ∧ ∀ x ∈ B, x < 256) := hide (by rw [hB]; exact HWhole.out k hb)
          have Hch : Hid (∀ U : World, Blk U hg (HV H ++ CH) 9 → U.cell? ⟨hg, k, none⟩ = some (.string (strN B))) := hide (by
            intro U hU
            rw [hU.cell, List.getElem?_append_left (by rw [HV_length]; exact HHk.out), HV_get HHk.out, hB]
            have := HHk.out
            simp [this])
          clear hb hB
          go_wp2_with fail
          refine hold_frame (p := fun fr => Code.wp Try.prog _ _ fr _) ?_
          intro fa hfr
          have e1 : fa.eval (.tmp 1) = .pointer (some ⟨w.heap.size, 0, none⟩) := by rw [hfr.out]; rfl
          have e5 : fa.eval (.tmp 5) = .int .i64 k := by rw [hfr.out]; rfl
          have hts : fa.tmps.size = 56 := by rw [hfr.out]; rfl
          refine region_S0 99 Try.mixed ?_
          intro w3 hk3 hheap
          have hW3 := hk3.blk HW.out (fun h => h)
          have hS0 : SvS w.heap.size hg (.int .i64 fr) hvs dvs (HV H ++ CH) w3 := ⟨(HK0.out.trans hk3 (fun _ _ h => h)).blk Hhb.out (fun h => h), _, hW3, rfl⟩
          refine ⟨SvS w.heap.size hg (.int .i64 fr) hvs dvs (HV H ++ CH), ?_⟩
          refine tkS 0 21 (v := .pointer (some ⟨w.heap.size, 0, none⟩)) hS0 rfl rfl (by kernel_rfl) (by kernel_rfl) (by kernel_rfl) (by kernel_rfl) (wanted_none rfl) (fun _ _ _ h => h) (fun U hU => r_fR0 (by simp [eval_put_ne, eval_put_eq, size_put, hts, e1])) ?_
          refine tkS 2 23 (v := .pointer (some ⟨w.heap.size, 5, none⟩)) hS0 rfl rfl (by kernel_rfl) (by kernel_rfl) (by kernel_rfl) (by kernel_rfl) (wanted_none rfl) (fun _ _ _ h => h) (fun U hU => r_fR1 (by simp [eval_put_ne, eval_put_eq, size_put, hts, e1])) ?_
          refine tkS 3 24 (v := .int .i64 fr) hS0 rfl rfl (by kernel_rfl) (by kernel_rfl) (by kernel_rfl) (by kernel_rfl) (wanted_none rfl) (fun _ _ _ h => h) (fun U hU => r_ldP3 (by simp [eval_put_ne, eval_put_eq, size_put, hts]) hU.c5) ?_
          refine tkS 4 25 (v := .int .i64 k) hS0 rfl rfl (by kernel_rfl) (by kernel_rfl) (by kernel_rfl) (by kernel_rfl) (wanted_none rfl) (fun _ _ _ h => h) (fun U hU => r_move (by simp [eval_put_ne, eval_put_eq, size_put, hts, e5])) ?_
          refine tkS 5 26 (v := .int .i64 ((fr + k : Nat) : Int)) hS0 rfl rfl (by kernel_rfl) (by kernel_rfl) (by kernel_rfl) (by kernel_rfl) (wanted_none rfl) (fun _ _ _ h => h) (fun U hU => r_addP (by simp [eval_put_ne, eval_put_eq, size_put, hts]) (by simp [eval_put_ne, eval_put_eq, size_put, hts]) (by have := HFit.out; have := HN2.out; have := Hlt.out; omega)) ?_
          refine tkS 6 27 (v := .pointer (some ⟨w.heap.size, 6, none⟩)) hS0 rfl rfl (by kernel_rfl) (by kernel_rfl) (by kernel_rfl) (by kernel_rfl) (wanted_none rfl) (fun _ _ _ h => h) (fun U hU => r_fR2 (by simp [eval_put_ne, eval_put_eq, size_put, hts, e1])) ?_
          refine tkS 7 28 (v := .slice (some ⟨hg, 0, none⟩) n hcap) hS0 rfl rfl (by kernel_rfl) (by kernel_rfl) (by kernel_rfl) (by kernel_rfl) (wanted_none rfl) (fun _ _ _ h => h) (fun U hU => r_ldR34 (p := ⟨w.heap.size, 6, none⟩) (by simp [eval_put_ne, eval_put_eq, size_put, hts]) (by rw [← Hhvs.out]; exact hU.c6)) ?_
          refine tkS 8 29 (v := .int .i64 k) hS0 rfl rfl (by kernel_rfl) (by kernel_rfl) (by kernel_rfl) (by kernel_rfl) (wanted_none rfl) (fun _ _ _ h => h) (fun U hU => r_move (by simp [eval_put_ne, eval_put_eq, size_put, hts, e5])) ?_
          refine tkS 9 30 (v := .pointer (some ⟨hg, k, none⟩)) hS0 rfl rfl (by kernel_rfl) (by kernel_rfl) (by kernel_rfl) (by kernel_rfl) (wanted_none rfl) (fun _ _ _ h => h) (fun U hU => r_ixR (cap := hcap) k (by simp [eval_put_ne, eval_put_eq, size_put, hts]) (by simp [eval_put_ne, eval_put_eq, size_put, hts]) Hlt.out) ?_
          refine tkS 10 31 (v := .string (strN B)) hS0 rfl rfl (by kernel_rfl) (by kernel_rfl) (by kernel_rfl) (by kernel_rfl) (wanted_none rfl) (fun _ _ _ h => h) (fun U hU => r_ldR9 (by simp [eval_put_ne, eval_put_eq, size_put, hts]) (Hch.out U hU.hb)) ?_
          refine twoS 1 11 (by kernel_rfl) ?_ ?_
          · skip
            refine stepVS 1 22 (v := D.refA s1 rv1) rfl rfl (wanted_none rfl) (r_ldD (by simp [eval_put_ne, eval_put_eq, size_put, hts]) hW3) (fun _ => hS0) ?_
            obtain ⟨w4, cap4, hrun4, hcap4, hcl4, hk4⟩ := bytes_newP w3 B HBl.out.2
            rw [HBl.out.1] at hrun4 hcap4
            refine oneVS 11 32 (v := .slice (some ⟨w3.heap.size, 0, none⟩) 64 cap4) (by kernel_rfl) rfl rfl (wanted_none rfl) (r_cvR (by simp [eval_put_ne, eval_put_eq, size_put, hts]) hrun4) (hS0.kept hk4) ?_
            have hW4 := hk4.blk hW3 (fun h => h)
            have hWt4 : WtAt w4 rv1 s1 := HWt.out.kept (hk3.trans hk4 (fun _ _ h => h))
            refine oneCS 12 33 (by kernel_rfl) rfl rfl (wanted_none rfl) (r_call3 Try.func42 (by kernel_rfl) rfl rfl (by simp [eval_put_ne, eval_put_eq, size_put, hts]) (by simp [eval_put_ne, eval_put_eq, size_put, hts]) (by simp [eval_put_ne, eval_put_eq, size_put, hts])) (rwrite1_at w4 s1 nd HOk.out rv1 hWt4 (fr + k) (by have := HFit.out; have := Hlt.out; omega) cap4 w3.heap.size 0 B HBl.out.1 HBl.out.2 hcap4 hcl4 (by have := HBd.out.1; have := HCa.out; have := Hlt.out; have := Hn.out; omega) (by have := HBd.out.2; have := HWs.out; have := Hlt.out; have := Hn.out; omega)) ?_
            rintro e w5 ⟨rv5, rfl, hWt5, hk5⟩
            have hW5 := hk5.blk hW4 (fun h => h)
            have hS5 := (hS0.kept hk4).kept hk5
            refine ⟨_, rfl, hS5, ?_⟩
            obtain ⟨s2, hs2⟩ : ∃ s2, wDev s1 (fr + k) 1 B = s2 := ⟨_, rfl⟩
            rw [hs2] at hWt5 ⊢
            have HX2 := HX2.out
            rw [hs2] at HX2
            have HX2 := hide HX2
            obtain ⟨ro5, rc5, rfl⟩ := hWt5.slice
            obtain ⟨rv5, hrv5⟩ : ∃ rv5, Value.slice ro5 s2.ws.length rc5 = rv5 := ⟨_, rfl⟩
            have hP5 : ∀ v ∈ D.refL s2 rv5, v.oneCell' = true := by rw [← hrv5]; exact D.refL_one s2 ro5 _ rc5
            rw [hrv5] at hWt5 ⊢
            refine tkS 13 20 (v := .tuple #[D.refA s2 rv5, .int .i64 (wErr s1)]) hS5 rfl rfl (by kernel_rfl) (by kernel_rfl) (by kernel_rfl) (by kernel_rfl) (wanted_none rfl) (fun _ _ _ h => h) (fun U hU => r_move (by simp [eval_put_ne, eval_put_eq, size_put, hts])) ?_
            refine tkS 14 34 (v := D.refA s2 rv5) hS5 rfl rfl (by kernel_rfl) (by kernel_rfl) (by kernel_rfl) (by kernel_rfl) (wanted_none rfl) (fun _ _ _ h => h) (fun U hU => r_extP (vs := #[D.refA s2 rv5, .int .i64 (wErr s1)]) (by simp [eval_put_ne, eval_put_eq, size_put, hts]) rfl) ?_
            refine tkS 15 35 (v := .int .i64 (wErr s1)) hS5 rfl rfl (by kernel_rfl) (by kernel_rfl) (by kernel_rfl) (by kernel_rfl) (wanted_none rfl) (fun _ _ _ h => h) (fun U hU => r_extP (vs := #[D.refA s2 rv5, .int .i64 (wErr s1)]) (by simp [eval_put_ne, eval_put_eq, size_put, hts]) rfl) ?_
            refine tkS 16 36 (v := .pointer (some ⟨w.heap.size, 0, none⟩)) hS5 rfl rfl (by kernel_rfl) (by kernel_rfl) (by kernel_rfl) (by kernel_rfl) (wanted_none rfl) (fun _ _ _ h => h) (fun U hU => r_fR0 (by simp [eval_put_ne, eval_put_eq, size_put, hts, e1])) ?_
            refine oneSS 17 (by kernel_rfl) rfl (wanted_none rfl) (run_store_agg (P := Try.prog) (b := w.heap.size) (off := 0) (M := D.refL s2 rv5) D.Try.agg33 (by simp [eval_put_ne, eval_put_eq, size_put, hts]) (by rw [← D.refL_A]; simp [eval_put_ne, eval_put_eq, size_put, hts]) rfl hP5 hW5 (by rw [refPL_len]; decide)) ?_ ?_
            · exact ⟨(Kept.setRow (S := fun k => k = w.heap.size) _ _ _ rfl).blk hS5.hb (fun e => by have := Hhb.out.lt; omega), _, hW5.setRow _, rfl⟩
            have hb7 : Blk (w5.setRow w.heap.size (refPL s2 rv5 fr hvs dvs).toArray) w.heap.size (refPL s2 rv5 fr hvs dvs) 37 := hW5.setRow _
            have hk7 : Kept (fun k => k = w.heap.size) w5 (w5.setRow w.heap.size (refPL s2 rv5 fr hvs dvs).toArray) := Kept.setRow (S := fun k => k = w.heap.size) _ _ _ rfl
            have e7 : List.take 0 (refPL s1 rv1 fr hvs dvs) ++ D.refL s2 rv5 ++ List.drop (0 + 5) (refPL s1 rv1 fr hvs dvs) = refPL s2 rv5 fr hvs dvs := rfl
            rw [e7]
            generalize w5.setRow w.heap.size (refPL s2 rv5 fr hvs dvs).toArray = w7 at hb7 hk7 ⊢
            have hS7 : SvS w.heap.size hg (.int .i64 fr) hvs dvs (HV H ++ CH) w7 := ⟨hk7.blk hS5.hb (fun e => by have := Hhb.out.lt; omega), _, hb7, rfl⟩
            refine tkS 18 4 (v := .int .i64 (wErr s1)) hS7 rfl rfl (by kernel_rfl) (by kernel_rfl) (by kernel_rfl) (by kernel_rfl) (wanted_none rfl) (fun _ _ _ h => h) (fun U hU => r_assign (by simp [put_none, eval_put_ne, eval_put_eq, size_put, hts])) ?_
            refine doneS (by kernel_rfl) ?_
            rw [hfr.out]
            have HWt7 : Hid (WtAt w7 rv5 s2) := hide (ownsRow_kept hWt5 hk7 (fun k hk e => D.ownsRow_not hWt5 hW5 (by decide) (e ▸ hk)))
            have HK7 : Hid (Kept (fun j => j = w.heap.size) w2 w7) := hide ((((HK.out.trans hk3 (fun _ _ h => h.elim)).trans hk4 (fun _ _ h => h.elim)).trans hk5 (fun _ _ h => h.elim)).trans hk7 (fun _ _ h => h))
            have HW7 := hide hb7
            clear hfr e1 e5 hts hb7 hk7 e7 hS7 hS5 hW5 hW4 hWt4 hWt5 hk5 hrun4 hcap4 hcl4 hk4 hP5
            simp only [put_lit, put_none, List.set_cons_succ, List.set_cons_zero]
            go_wp2
            go_roundw
            case rel => exact ⟨k + 1, (s2, wErr s1), rv5, HX2, rfl, by simp, by omega, HW7, HWt7, HK7⟩
            case measure => simp [intOf]; omega
          · skip
            obtain ⟨w4, cap4, hrun4, hcap4, hcl4, hk4⟩ := bytes_newP w3 B HBl.out.2
            rw [HBl.out.1] at hrun4 hcap4
            refine stepVS 11 32 (v := .slice (some ⟨w3.heap.size, 0, none⟩) 64 cap4) rfl rfl (wanted_none rfl) (r_cvR (by simp [eval_put_ne, eval_put_eq, size_put, hts]) hrun4) (fun _ => hS0.kept hk4) ?_
            refine oneVS 1 22 (v := D.refA s1 rv1) (by kernel_rfl) rfl rfl (wanted_none rfl) (r_ldD (by simp [eval_put_ne, eval_put_eq, size_put, hts]) (hk4.blk hW3 (fun h => h))) (hS0.kept hk4) ?_
            have hW4 := hk4.blk hW3 (fun h => h)
            have hWt4 : WtAt w4 rv1 s1 := HWt.out.kept (hk3.trans hk4 (fun _ _ h => h))
            refine oneCS 12 33 (by kernel_rfl) rfl rfl (wanted_none rfl) (r_call3 Try.func42 (by kernel_rfl) rfl rfl (by simp [eval_put_ne, eval_put_eq, size_put, hts]) (by simp [eval_put_ne, eval_put_eq, size_put, hts]) (by simp [eval_put_ne, eval_put_eq, size_put, hts])) (rwrite1_at w4 s1 nd HOk.out rv1 hWt4 (fr + k) (by have := HFit.out; have := Hlt.out; omega) cap4 w3.heap.size 0 B HBl.out.1 HBl.out.2 hcap4 hcl4 (by have := HBd.out.1; have := HCa.out; have := Hlt.out; have := Hn.out; omega) (by have := HBd.out.2; have := HWs.out; have := Hlt.out; have := Hn.out; omega)) ?_
            rintro e w5 ⟨rv5, rfl, hWt5, hk5⟩
            have hW5 := hk5.blk hW4 (fun h => h)
            have hS5 := (hS0.kept hk4).kept hk5
            refine ⟨_, rfl, hS5, ?_⟩
            obtain ⟨s2, hs2⟩ : ∃ s2, wDev s1 (fr + k) 1 B = s2 := ⟨_, rfl⟩
            rw [hs2] at hWt5 ⊢
            have HX2 := HX2.out
            rw [hs2] at HX2
            have HX2 := hide HX2
            obtain ⟨ro5, rc5, rfl⟩ := hWt5.slice
            obtain ⟨rv5, hrv5⟩ : ∃ rv5, Value.slice ro5 s2.ws.length rc5 = rv5 := ⟨_, rfl⟩
            have hP5 : ∀ v ∈ D.refL s2 rv5, v.oneCell' = true := by rw [← hrv5]; exact D.refL_one s2 ro5 _ rc5
            rw [hrv5] at hWt5 ⊢
            refine tkS 13 20 (v := .tuple #[D.refA s2 rv5, .int .i64 (wErr s1)]) hS5 rfl rfl (by kernel_rfl) (by kernel_rfl) (by kernel_rfl) (by kernel_rfl) (wanted_none rfl) (fun _ _ _ h => h) (fun U hU => r_move (by simp [eval_put_ne, eval_put_eq, size_put, hts])) ?_
            refine tkS 14 34 (v := D.refA s2 rv5) hS5 rfl rfl (by kernel_rfl) (by kernel_rfl) (by kernel_rfl) (by kernel_rfl) (wanted_none rfl) (fun _ _ _ h => h) (fun U hU => r_extP (vs := #[D.refA s2 rv5, .int .i64 (wErr s1)]) (by simp [eval_put_ne, eval_put_eq, size_put, hts]) rfl) ?_
            refine tkS 15 35 (v := .int .i64 (wErr s1)) hS5 rfl rfl (by kernel_rfl) (by kernel_rfl) (by kernel_rfl) (by kernel_rfl) (wanted_none rfl) (fun _ _ _ h => h) (fun U hU => r_extP (vs := #[D.refA s2 rv5, .int .i64 (wErr s1)]) (by simp [eval_put_ne, eval_put_eq, size_put, hts]) rfl) ?_
            refine tkS 16 36 (v := .pointer (some ⟨w.heap.size, 0, none⟩)) hS5 rfl rfl (by kernel_rfl) (by kernel_rfl) (by kernel_rfl) (by kernel_rfl) (wanted_none rfl) (fun _ _ _ h => h) (fun U hU => r_fR0 (by simp [eval_put_ne, eval_put_eq, size_put, hts, e1])) ?_
            refine oneSS 17 (by kernel_rfl) rfl (wanted_none rfl) (run_store_agg (P := Try.prog) (b := w.heap.size) (off := 0) (M := D.refL s2 rv5) D.Try.agg33 (by simp [eval_put_ne, eval_put_eq, size_put, hts]) (by rw [← D.refL_A]; simp [eval_put_ne, eval_put_eq, size_put, hts]) rfl hP5 hW5 (by rw [refPL_len]; decide)) ?_ ?_
            · exact ⟨(Kept.setRow (S := fun k => k = w.heap.size) _ _ _ rfl).blk hS5.hb (fun e => by have := Hhb.out.lt; omega), _, hW5.setRow _, rfl⟩
            have hb7 : Blk (w5.setRow w.heap.size (refPL s2 rv5 fr hvs dvs).toArray) w.heap.size (refPL s2 rv5 fr hvs dvs) 37 := hW5.setRow _
            have hk7 : Kept (fun k => k = w.heap.size) w5 (w5.setRow w.heap.size (refPL s2 rv5 fr hvs dvs).toArray) := Kept.setRow (S := fun k => k = w.heap.size) _ _ _ rfl
            have e7 : List.take 0 (refPL s1 rv1 fr hvs dvs) ++ D.refL s2 rv5 ++ List.drop (0 + 5) (refPL s1 rv1 fr hvs dvs) = refPL s2 rv5 fr hvs dvs := rfl
            rw [e7]
            generalize w5.setRow w.heap.size (refPL s2 rv5 fr hvs dvs).toArray = w7 at hb7 hk7 ⊢
            have hS7 : SvS w.heap.size hg (.int .i64 fr) hvs dvs (HV H ++ CH) w7 := ⟨hk7.blk hS5.hb (fun e => by have := Hhb.out.lt; omega), _, hb7, rfl⟩
            refine tkS 18 4 (v := .int .i64 (wErr s1)) hS7 rfl rfl (by kernel_rfl) (by kernel_rfl) (by kernel_rfl) (by kernel_rfl) (wanted_none rfl) (fun _ _ _ h => h) (fun U hU => r_assign (by simp [put_none, eval_put_ne, eval_put_eq, size_put, hts])) ?_
            refine doneS (by kernel_rfl) ?_
            rw [hfr.out]
            have HWt7 : Hid (WtAt w7 rv5 s2) := hide (ownsRow_kept hWt5 hk7 (fun k hk e => D.ownsRow_not hWt5 hW5 (by decide) (e ▸ hk)))
            have HK7 : Hid (Kept (fun j => j = w.heap.size) w2 w7) := hide ((((HK.out.trans hk3 (fun _ _ h => h.elim)).trans hk4 (fun _ _ h => h.elim)).trans hk5 (fun _ _ h => h.elim)).trans hk7 (fun _ _ h => h))
            have HW7 := hide hb7
            clear hfr e1 e5 hts hb7 hk7 e7 hS7 hS5 hW5 hW4 hWt4 hWt5 hk5 hrun4 hcap4 hcl4 hk4 hP5
            simp only [put_lit, put_none, List.set_cons_succ, List.set_cons_zero]
            go_wp2
            go_roundw
            case rel => exact ⟨k + 1, (s2, wErr s1), rv5, HX2, rfl, by simp, by omega, HW7, HWt7, HK7⟩
            case measure => simp [intOf]; omega
        · subst hE
          have HX2 : Hid (svN fr H T s (k + 1) = (s1, 10)) := hide (by rw [HStep.out]; unfold svStep; rw [if_neg (by simp)])
          clear hb
          go_wp2
          go_roundw
          case rel => exact ⟨k + 1, (s1, 10), rv1, HX2, rfl, by simp, by omega, HW, HWt, HK⟩
          case measure => simp [intOf]; omega
    · obtain rfl : k = n := by omega
      have HHk := hide HHl.out
      have HR2r := hide (HK.out.blk HR2.out (fun e => by have := HZ1.out; omega))
      rcases hEc with hE | hE
      · subst hE
        have HSD : Hid (svD fr k H T s = s1.flushed) := hide (by unfold svD; rw [HX.out]; rfl)
        have HSE : Hid (svE fr k H T s = s1.errF) := hide (by unfold svE; rw [HX.out]; rfl)
        have HFl := hide (fun (U : World) (hU : WtAt U rv1 s1) => rflush_at U s1 nd HOk.out rv1 hU (by have := HBd.out.1; have := HCa.out; have := Hn.out; omega))
        have HOk2 := hide HOk.out.flushed
        have hec := errF_cases s1
        obtain ⟨s2, hs2⟩ : ∃ s2, s1.flushed = s2 := ⟨_, rfl⟩
        obtain ⟨E2, hE2⟩ : ∃ E2, s1.errF = E2 := ⟨_, rfl⟩
        rw [hs2] at HSD HFl HOk2
        rw [hE2] at HSE HFl hec
        clear hs2 hE2
        go_wp2_with (first | (with_reducible refine stop_load 33 ?_) | fail)
        refine hide ?_
        refine aw_load (M := D.refL s1 rv1) D.Try.agg33 rfl HW.out (by rw [refPL_len]; decide) rfl ?_
        try simp only [put_lit, put_none, List.set_cons_succ, List.set_cons_zero]
        go_wp2_with fail
        rw [← D.refL_A]
        refine (HFl.out wr HWt.out).mono ?_
        rintro e w3 ⟨rv3, rfl, hWt3, hk3⟩
        obtain ⟨ro3, rc3, rfl⟩ := hWt3.slice
        obtain ⟨rv3, hrv3⟩ : ∃ rv3, Value.slice ro3 s2.ws.length rc3 = rv3 := ⟨_, rfl⟩
        have HP3 : Hid (∀ v ∈ D.refL s2 rv3, v.oneCell' = true) := hide (by rw [← hrv3]; exact D.refL_one s2 ro3 _ rc3)
        rw [hrv3] at hWt3 ⊢
        have HPL1 : Hid (∀ v ∈ refPL s2 rv3 fr hvs dvs, v.oneCell' = true) := hide (by rw [← hrv3, Hhvs.out, Hdvs.out]; exact refPL_one)
        have HPL1' : Hid (∀ (a : Option Addr) (m c : Nat), ∀ v ∈ refPL s2 rv3 fr hvs (.slice a m c), v.oneCell' = true) := hide (by intro a m c; rw [← hrv3, Hhvs.out]; exact refPL_one)
        have HW3 := hide (hk3.blk HW.out (fun h => h))
        have HWt3 := hide hWt3
        have HK3 := hide (HK.out.trans hk3 (fun _ _ h => h.elim))
        have HR3 := hide (hk3.blk HR2r.out (fun h => h))
        clear hWt3 hk3 hrv3 HFl
        go_wp2_with (first | (with_reducible refine stop_store 33 ?_) | fail)
        refine hide ?_
        refine aw_store (M := D.refL s2 rv3) D.Try.agg33 rfl (by rw [D.refL_A]; rfl) rfl HP3.out HW3.out (by rw [refPL_len]; decide) ?_
        intro w4 hw4 hk4 hz4
        have HW4 : Hid (Blk w4 w.heap.size (refPL s2 rv3 fr hvs dvs) 37) := hide hw4
        have HWt4 : Hid (WtAt w4 rv3 s2) := hide (ownsRow_kept HWt3.out hk4 (fun k hk e => D.ownsRow_not HWt3.out HW3.out (by decide) (e ▸ hk)))
        have HK4 := hide (HK3.out.trans hk4 (fun _ _ h => h))
        have HR4 := hide (hk4.blk HR3.out (fun e => by have := HZ1.out; omega))
        clear hw4 hk4 hz4 HW3 HWt3 HK3 HR3
        try simp only [put_lit, put_none, List.set_cons_succ, List.set_cons_zero]
        rcases hec with hE | hE
        · subst hE
          have HST : Hid (svT fr k H T s = noT k) := hide (by unfold svT; rw [HSE.out]; rfl)
          have c6 : w4.cell? ⟨w.heap.size, 6, none⟩ = some (.slice (some ⟨hg, 0, none⟩) k hcap) := (HW4.out.cell 6).trans (by rw [← Hhvs.out]; rfl)
          go_wp2_with (first
            | ((with_reducible refine aw_make (n := k) 1 (by decide) Try.underlying35 Hi4.out Hz4.out rfl Hs4.out rfl rfl (by rw [Hb4.out]; have := Hn.out; omega) (by have := Hn.out; unfold maxLen; omega) ?_); intro w5 hw5 hk5 hz5; have HW5 := hide hw5; have HK5 := hide hk5; clear hw5 hk5 hz5 c6)
            | (with_reducible refine stop_store 35 ?_))
          refine hide ?_
          refine aw_store1 (v := .slice (some ⟨w4.heap.size, 0, none⟩) k k) Hi35.out Hs35.out rfl rfl rfl rfl (HK5.out.blk HW4.out (fun h => h)) (by rw [refPL_len]; decide) ?_
          intro w6 hw6 hk6 hz6
          obtain ⟨PL, hPL⟩ : ∃ L, L = refPL s2 rv3 fr hvs (.slice (some ⟨w4.heap.size, 0, none⟩) k k) := ⟨_, rfl⟩
          have HPe := hide hPL
          have HPl : Hid (PL.length = 8) := hide (by rw [hPL]; rfl)
          have HPt : Hid ((PL.drop 0).take 8 = PL) := hide (by rw [hPL]; rfl)
          have HP1 : Hid (∀ v ∈ PL, v.oneCell' = true) := hide (by rw [hPL]; exact HPL1'.out _ _ _)
          have HW6 : Hid (Blk w6 w.heap.size PL 37) := hide (by rw [hPL]; exact hw6)
          have HK6 := hide hk6
          have HR6 := hide (hk6.blk (HK5.out.blk HR4.out (fun h => h)) (fun e => by have := HZ1.out; omega))
          have HWt6 : Hid (WtAt w6 rv3 s2) := hide (ownsRow_kept (HWt4.out.kept HK5.out) hk6 (fun k hk e => D.ownsRow_not (HWt4.out.kept HK5.out) (HK5.out.blk HW4.out (fun h => h)) (by decide) (e ▸ hk)))
          clear hw6 hk6 hz6 hPL
          try simp only [put_lit, put_none, List.set_cons_succ, List.set_cons_zero]
          go_wp2_with (first | (with_reducible refine stop_load 37 ?_) | fail)
          refine hide ?_
          refine aw_load (M := PL) Try.agg37 rfl HW6.out (by rw [HPl.out]; decide) HPt.out ?_
          try simp only [put_lit, put_none, List.set_cons_succ, List.set_cons_zero]
          go_wp2_with (first | (with_reducible refine stop_store 37 ?_) | fail)
          refine hide ?_
          refine aw_store (M := PL) Try.agg37 rfl rfl HPl.out HP1.out HR6.out (by rw [zero37]; decide) ?_
          intro w7 hw7 hk7 hz7
          rw [put_whole _ _ (by rw [HPl.out, zero37])] at hw7
          try simp only [put_lit, put_none, List.set_cons_succ, List.set_cons_zero]
          go_wp2
          have z1 := HZ1.out
          have hg4 := HW4.out.lt
          have k4 : Kept (fun _ => False) w w4 := HK2.out.trans HK4.out (fun i hi e => by omega)
          have k6 : Kept (fun _ => False) w w6 := (k4.trans HK5.out (fun _ _ h => h)).trans HK6.out (fun i hi e => by omega)
          have k7 : Kept (fun _ => False) w w7 := k6.trans hk7 (fun i hi e => by omega)
          have hwt7 : WtAt w7 rv3 s2 := ownsRow_kept HWt6.out hk7 (fun k hk e => D.ownsRow_not HWt6.out HR6.out (by decide) (e ▸ hk))
          have q5 : Blk w7 w4.heap.size (TV (noT k)) 4 := by
            have h5 := HW5.out
            rw [Nat.mul_one] at h5
            rw [TV_no]
            exact hk7.blk (HK6.out.blk h5 (fun e => by omega)) (fun e => by have := HR4.out.lt; omega)
          have hr := HH.out.kept k7
          refine bodyPost_ret (D.results_cell_tmp (t := 2) (u := 3) (ty := 37) rfl Try.agg37 rfl hw7 HPl.out rfl) rfl ⟨rv3, _, by rw [HPe.out, HSD.out, HSE.out]; rfl, ?_, k7⟩
          rw [HSD.out, HST.out]
          exact { dok := HOk2.out, wt := hwt7, hh := hr.hh, hd := RowB.new q5 (by rw [TV_length]; simp [noT]) Hn.out.2 (by have := HN.out; have := k4.size; omega), fit := hr.fit, n64 := hr.n64 }
        · subst hE
          have HST : Hid (svT fr k H T s = T) := hide (by unfold svT; rw [HSE.out]; rfl)
          go_wp2_with (first | (with_reducible refine stop_load 37 ?_) | fail)
          refine hide ?_
          refine aw_load (M := refPL s2 rv3 fr hvs dvs) Try.agg37 rfl HW4.out (by rw [refPL_len]; decide) rfl ?_
          try simp only [put_lit, put_none, List.set_cons_succ, List.set_cons_zero]
          go_wp2_with (first | (with_reducible refine stop_store 37 ?_) | fail)
          refine hide ?_
          refine aw_store (M := refPL s2 rv3 fr hvs dvs) Try.agg37 rfl rfl rfl HPL1.out HR4.out (by rw [zero37]; decide) ?_
          intro w7 hw7 hk7 hz7
          rw [put_whole _ _ (by rw [zero37]; rfl)] at hw7
          try simp only [put_lit, put_none, List.set_cons_succ, List.set_cons_zero]
          go_wp2
          have z1 := HZ1.out
          have k4 : Kept (fun _ => False) w w4 := HK2.out.trans HK4.out (fun i hi e => by omega)
          have k7 : Kept (fun _ => False) w w7 := k4.trans hk7 (fun i hi e => by omega)
          have hwt7 : WtAt w7 rv3 s2 := ownsRow_kept HWt4.out hk7 (fun k hk e => D.ownsRow_not HWt4.out HR4.out (by decide) (e ▸ hk))
          have hr := HH.out.kept k7
          refine bodyPost_ret (D.results_cell_tmp (t := 2) (u := 3) (ty := 37) rfl Try.agg37 rfl hw7 rfl rfl) rfl ⟨rv3, dvs, by rw [HSD.out, HSE.out]; rfl, ?_, k7⟩
          rw [HSD.out, HST.out]
          exact { dok := HOk2.out, wt := hwt7, hh := hr.hh, hd := hr.hd, fit := hr.fit, n64 := hr.n64 }
      · subst hE
        have HSD : Hid (svD fr k H T s = s1) := hide (by unfold svD; rw [HX.out]; rfl)
        have HSE : Hid (svE fr k H T s = 10) := hide (by unfold svE; rw [HX.out]; rfl)
        have HST : Hid (svT fr k H T s = T) := hide (by unfold svT; rw [HSE.out]; rfl)
        obtain ⟨ro3, rc3, hrv3⟩ := HWt.out.slice
        have HPL1 : Hid (∀ v ∈ refPL s1 rv1 fr hvs dvs, v.oneCell' = true) := hide (by rw [hrv3, Hhvs.out, Hdvs.out]; exact refPL_one)
        clear hrv3
        go_wp2_with (first | (with_reducible refine stop_load 37 ?_) | fail)
        refine hide ?_
        refine aw_load (M := refPL s1 rv1 fr hvs dvs) Try.agg37 rfl HW.out (by rw [refPL_len]; decide) rfl ?_
        try simp only [put_lit, put_none, List.set_cons_succ, List.set_cons_zero]
        go_wp2_with (first | (with_reducible refine stop_store 37 ?_) | fail)
        refine hide ?_
        refine aw_store (M := refPL s1 rv1 fr hvs dvs) Try.agg37 rfl rfl rfl HPL1.out HR2r.out (by rw [zero37]; decide) ?_
        intro w7 hw7 hk7 hz7
        rw [put_whole _ _ (by rw [zero37]; rfl)] at hw7
        try simp only [put_lit, put_none, List.set_cons_succ, List.set_cons_zero]
        go_wp2
        have z1 := HZ1.out
        have k7 : Kept (fun _ => False) w w7 := HK0.out.trans hk7 (fun i hi e => by omega)
        have hwt7 : WtAt w7 rv1 s1 := ownsRow_kept HWt.out hk7 (fun k hk e => D.ownsRow_not HWt.out HR2r.out (by decide) (e ▸ hk))
        have hr := HH.out.kept k7
        refine bodyPost_ret (D.results_cell_tmp (t := 2) (u := 3) (ty := 37) rfl Try.agg37 rfl hw7 rfl rfl) rfl ⟨rv1, dvs, by rw [HSD.out, HSE.out]; rfl, ?_, k7⟩
        rw [HSD.out, HST.out]
        exact { dok := HOk.out, wt := hwt7, hh := hr.hh, hd := hr.hd, fit := hr.fit, n64 := hr.n64 }
end Go.Proofs.Ytnlcmgdeohbmoaa
