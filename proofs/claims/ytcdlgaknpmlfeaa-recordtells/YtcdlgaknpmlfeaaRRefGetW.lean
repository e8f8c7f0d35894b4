/-
  Get, of the reference.
-/
import Derived.Test.YtcdlgaknpmlfeaaRRefPutW
import Derived.Test.YtcdlgaknpmlfeaaPRefS
import Derived.Test.YtcdlgaknpmlfeaaRGet
import Derived.Laws.IdiomStrings
namespace Go.Proofs.Ytcdlgaknpmlfeaa
open Go.RowKit Go.Shelf
set_option linter.unusedSimpArgs false
set_option linter.unusedVariables false

theorem Try.info9 : (Try.prog.info? 9).map (fun i => (i.zero, i.size, i.bytes)) = some (some (.string ⟨#[]⟩), 1, 16) := by kernel_rfl
section
variable {P : Program} {ops : Array Oper} {Q : Exit → Act → World → Prop} {a : Act} {w : World} {rest : List Oper} {dst : Option Tmp} {ty : TypeId} {pos : String} {aft : Array Edge} {t : TypeId} {x : Operand} {k : Nat}
theorem stop_fa (h : Hid (wpList P ops Q (⟨dst, .fieldAddr t x k, ty, pos, aft, none⟩ :: rest) a w)) : wpList P ops Q (⟨dst, .fieldAddr t x k, ty, pos, aft, none⟩ :: rest) a w := h.out
end
theorem Try.agg56 : aggSize Try.prog 56 2 := by
  obtain ⟨i0, hi, _, hs, _⟩ := info_parts Try.info56
  exact ⟨⟨i0, hi, hs⟩, _, Try.underlying56, .inr ⟨_, rfl⟩⟩
def RefGetIs (w' : World) (B : List Nat) (x : Rv) (ok : Bool) : Prop := RcAt w' x ∧ ((getR B = some x.rc ∧ ok = true) ∨ (getR B = none ∧ ok = false ∧ x.rc = ⟨0, 0, 0, []⟩))
/-- Writes that lie apart from the block b. -/
def WsOff (v : Value) (ws : List Wv) (b : Nat) : Prop := (∀ k, vX v k → k ≠ b) ∧ ∀ x ∈ ws, ∀ k, vX x.s.v k → k ≠ b
theorem WsAt.keptX {S : Nat → Prop} {w w' : World} {v : Value} {l : List Wv} (h : WsAt w v l) (hk : Kept S w w') (hv : ∀ k, vX v k → ¬ S k) (hx : ∀ x ∈ l, ∀ k, vX x.s.v k → ¬ S k) : WsAt w' v l := by
  obtain ⟨⟨ao, cap, h1, h2, h3⟩, h4, h5⟩ := h
  refine ⟨⟨ao, cap, h1, h2, fun h0 => ?_⟩, fun x hxm => (h4 x hxm).keptX hk (fun _ k hvk => hx x hxm k hvk), h5⟩
  obtain ⟨g, off, e, hc⟩ := h3 h0
  exact ⟨g, off, e, hk.cells hc (hv g (by rw [h1, e]; exact ⟨_, _, _, rfl⟩))⟩
theorem WsAt.keptB2 {w w' : World} {v : Value} {l : List Wv} {b : Nat} {L : List Value} {t : TypeId} (h : WsAt w v l) (hb : Blk w b L t) (hk : Kept (fun k => k = b) w w') (ho : WsOff v l b) : WsAt w' v l :=
  h.keptX hk (fun k hv e => ho.1 k hv e) (fun x hx k hv e => ho.2 x hx k hv e)
section
variable {ρ : Operand → Value} {w : World} {dst : Option Tmp} {ty : TypeId} {pos : String} {aft : Array Edge} {gd : Option (Nat × Bool)} {x y z : Operand}
theorem r_f56_0 {b : Nat} (hx : ρ x = .pointer (some ⟨b, 0, none⟩)) : (execOp ρ ⟨dst, .fieldAddr 56 x 0, ty, pos, aft, gd⟩).run Try.prog w = .ok (.value (.pointer (some ⟨b, 0, none⟩))) w := by
  go_simp
theorem r_ld9 {b o : Nat} {v : Value} (hx : ρ x = .pointer (some ⟨b, o, none⟩)) (hc : w.cell? ⟨b, o, none⟩ = some v) : (execOp ρ ⟨dst, .load 9 x, ty, pos, aft, gd⟩).run Try.prog w = .ok (.value v) w := by
  go_simp
theorem r_cvN {T : List Nat} {v : Value} {w' : World} (hx : ρ x = .string (strN T)) (h : (convert 9 25 (.string (strN T))).run Try.prog w = .ok v w') : (execOp ρ ⟨dst, .convert 9 25 x, ty, pos, aft, gd⟩).run Try.prog w = .ok (.value v) w' := by
  simp [execOp, hx, h]
end
theorem strN_row (B : List Nat) (hB : ∀ x ∈ B, x < 256) (cap j : Nat) (v : Value) (hj : (BV B)[j]? = some v) : (bytesRow (strN B) cap)[j]? = some v := by
  obtain ⟨hlt, he⟩ := List.getElem?_eq_some_iff.1 hj
  rw [BV_length] at hlt
  have hs : j < (strN B).data.size := by rw [strN_data]; simpa using hlt
  rw [bytesRow_at (strN B) cap j hs]
  have hd : (strN B).data[j] = UInt8.ofNat B[j] := by
    simp only [strN_data, List.getElem_toArray, List.getElem_map]
  rw [hd, ← he]
  have h := hB B[j] (List.getElem_mem _)
  have : (UInt8.ofNat B[j]).toNat = B[j] := by simp [UInt8.toNat_ofNat']; omega
  rw [this]
  simp [BV]
/-- A text's bytes, in new memory. -/
theorem run_bytesN (w : World) (B : List Nat) (hB : ∀ x ∈ B, x < 256) : ∃ w' cap, (convert 9 25 (.string (strN B))).run Try.prog w = .ok (.slice (some ⟨w.heap.size, 0, none⟩) B.length cap) w' ∧ Src w' (.slice (some ⟨w.heap.size, 0, none⟩) B.length cap) B ∧ Kept (fun _ => False) w w' := by
  have hrun := run_bytes_of_string (P := Try.prog) w 9 25 5 (strN B) Try.underlying9 Try.underlying25 Try.underlying5
  rw [strN_size] at hrun
  have hge := grownCap_ge w B.length 0 5
  refine ⟨_, _, hrun, ⟨_, _, rfl, hge, hB, fun _ => ⟨_, _, rfl, ?_⟩, fun h => by cases h⟩, ?_⟩
  · intro j v hj
    rw [Nat.zero_add]
    have := World.cell?_alloc_mark w.drew (bytesRow (strN B) (grownCap w B.length 0 5)) 5 ((bytesRow (strN B) (grownCap w B.length 0 5)).size, (bytesRow (strN B) (grownCap w B.length 0 5)).size + 1) j
    exact this.trans (strN_row B hB _ j v hj)
  · exact ((Kept.refl (fun _ => False) w).drew).trans (Kept.alloc _ w.drew _) (fun _ _ h => h)
theorem scan2_ok {S : List Nat} (h : (scanNum S 0 2).2.2 = 0) : (scanNum S 0 2).2.1 = S.drop 2 ∧ 2 ≤ S.length := by
  cases hf : firstN S 2 with
  | none => rw [sN_none hf] at h; cases h
  | some n =>
    rw [sN_some hf]
    refine ⟨rfl, ?_⟩
    unfold firstN at hf
    split at hf
    · rename_i hh
      have := hh.2.2.1
      omega
    · cases hf
theorem scan_lt (S : List Nat) (E m : Int) : (scanNum S E m).1 < 9223372036854775808 := by
  unfold scanNum
  split
  · show (0 : Int) < 9223372036854775808; decide
  · cases hf : firstN S m with
    | none => show (0 : Int) < 9223372036854775808; decide
    | some n =>
      unfold firstN at hf
      split at hf
      · rename_i hh
        have := hh.2.2.2
        simp only [Option.some.injEq] at hf
        simp only
        omega
      · cases hf
theorem gd_of {B : List Nat} {r : Rc} {S : List Nat} {E : Int} (h : readR B = (r, S, E)) : GD B r S E :=
  ⟨fun hE => getR_err (by rw [h]; exact hE), fun hE => by rw [h, hE]⟩
theorem scanWs_err {n : Nat} {S : List Nat} {E : Int} (h : E ≠ 0) : scanWs n S E = ([], S, E) := by
  cases n with
  | zero => rfl
  | succ n => rw [scanWs, if_pos h]
/-- The word of the loop over the writes. -/
def RGI (wL : World) (bs b5 : Nat) (t1 n1 : Int) (nN : Nat) (S4 : List Nat) (E4 : Int) (bl : Nat) (W : World) (i : Nat) (S : List Nat) (E : Int) (sl : Sl) (ws : List Wv) : Prop :=
  RefAt W bs S E ∧ Blk W b5 [.int .i64 3, .int .i64 t1, .int .i64 n1, sl.v] 24 ∧ WsRow W sl.v ws ∧ (∀ x ∈ ws, Src W x.s.v x.B) ∧ (∀ k, sl.v.ownBlock = some k → wL.heap.size ≤ k) ∧
  (∀ x ∈ ws, ∀ k, vX x.s.v k → wL.heap.size ≤ k ∧ k < W.heap.size ∧ sl.v.ownBlock ≠ some k) ∧ scanWs nN S4 E4 = (ws.map Wv.wr ++ (scanWs (nN - i) S E).1, (scanWs (nN - i) S E).2) ∧ Kept (fun k => k = bs ∨ k = b5) wL W ∧ (∀ x ∈ S, x < 256) ∧ S.length + 66 * ws.length ≤ bl
theorem WsOff.nil (b : Nat) : WsOff (.slice none 0 0) [] b := ⟨fun k h => by obtain ⟨_, _, _, e⟩ := h; simp at e, by simp⟩

set_option maxRecDepth 100000 in
set_option maxHeartbeats 8000000 in
theorem rrget_at (w : World) (v : Value) (B : List Nat) (hs : Src w v B) (hl : B.length ≤ 100000) :
    Calls Try.prog 13 #[v] w fun e w' => ∃ (x : Rv) (ok : Bool), e = .returned (.tuple #[x.agg, .bool ok]) ∧ RefGetIs w' B x ok ∧ Kept (fun _ => False) w w' := by
  have HSB : Hid ((∀ x ∈ B, x < 256) ∧ B.length ≤ B.length) := hide ⟨hs.lt, Nat.le_refl _⟩
  have HV := hide hs
  have Hl := hide hl
  clear hs
  obtain ⟨i24, hi24, hz24, hs24, hb24⟩ := info_parts Try.info24
  obtain ⟨i22, hi22, hz22, hs22, hb22⟩ := info_parts Try.info22
  obtain ⟨i3, hi3, hz3, hs3, hb3⟩ := info_parts Try.info3
  obtain ⟨i40, hi40, hz40, hs40, hb40⟩ := info_parts Try.info40
  have Hi24 := hide hi24
  have Hz24 := hide hz24
  have Hi22 := hide hi22
  have Hs22 := hide hs22
  have Hi3 := hide hi3
  have Hs3 := hide hs3
  obtain ⟨i9, hi9, hz9, hs9, hb9⟩ := info_parts Try.info9
  have Hi9 := hide hi9
  have Hs9 := hide hs9
  clear hi9 hz9 hs9 hb9
  have Hi40 := hide hi40
  have Hz40 := hide hz40
  have Hs40 := hide hs40
  clear hi24 hz24 hs24 hb24 hi22 hz22 hs22 hb22 hi3 hz3 hs3 hb3 hi40 hz40 hs40 hb40
  go_enter Try.func13, Try.ntmps13
  go_wp2_with (first
    | ((with_reducible refine aw_alloc (dst := some 2) Hi24.out Hz24.out ?_); intro w1 hb1 hk1 hz1; have Yz1 := hide hz1; clear hz1)
    | (with_reducible refine stop_convert 25 9 ?_)
    | fail)
  refine hide ?_
  refine wpList_run rfl (r_strS (v := v) rfl (HV.out.kept hk1)) ?_
  obtain ⟨b2, hb2⟩ : ∃ b, b = w.heap.size := ⟨_, rfl⟩
  rw [← hb2] at hb1 ⊢
  have Hb2w : Hid (w.heap.size ≤ b2) := hide (by omega)
  have Hb21 : Hid (b2 < w1.heap.size) := hide hb1.lt
  clear hb2
  go_wp2_with (with_reducible refine stop_boxA ?_)
  refine hide ?_
  refine aw_box (t := 56) (v := .agg #[.string (strN B), .int .i64 0]) rfl ?_
  intro w2 hbx hk2 hz2
  obtain ⟨bs, hbs⟩ : ∃ b, b = w1.heap.size := ⟨_, rfl⟩
  rw [← hbs] at hbx ⊢
  have HX : Hid (RefAt w2 bs B 0) := hide hbx
  have HB2 : Hid (Blk w2 b2 [.int .i64 0, .int .i64 0, .int .i64 0, .slice none 0 0] 24) := hide (hk2.blk hb1 (fun h => h))
  have HK2 := hide (hk1.trans hk2 (fun _ _ h => h))
  have Hb2s : Hid (b2 ≠ bs) := hide (by have := Hb21.out; omega)
  have Hbsw : Hid (w.heap.size ≤ bs) := hide (by have := Yz1.out; omega)
  clear hb1 hbx hk1 hk2 hz2 hbs Yz1
  obtain ⟨⟨k1, S1, E1⟩, hsc⟩ : ∃ r, r = scanNum B 0 1 := ⟨_, rfl⟩
  have HN := hide (refnum_at w2 bs B HSB.out.1 0 HX.out (by have := HSB.out.2; omega) 1 (by decide))
  have HSS1 : Hid ((∀ x ∈ S1, x < 256) ∧ S1.length ≤ B.length) := hide (by
    have h1 := scanNum_lt (E := 0) (w := 1) HSB.out.1
    have h2 := scanNum_len B 0 1
    rw [← hsc] at h1 h2
    exact ⟨h1, Nat.le_trans h2 HSB.out.2⟩)
  have Hk1 := hide hsc
  rw [← hsc] at HN
  clear hsc
  go_wp2_with fail
  refine HN.out.mono ?_
  rintro e w3 ⟨rfl, hxw3, hkw3⟩
  clear HN
  have HX3 : Hid (RefAt w3 bs S1 E1) := hide hxw3
  have HB23 := hide (hkw3.blk HB2.out Hb2s.out)
  have HK3 := hide (HK2.out.trans hkw3 (fun i hi h => by have := Hbsw.out; omega))
  clear hxw3 hkw3 HX HB2 HK2
  go_wp2_with (first
    | ((with_reducible refine aw_alloc (dst := some 5) Hi24.out Hz24.out ?_); intro w4 hb4 hk4 hz4; have Yz4 := hide hz4; clear hz4)
    | ((with_reducible refine aw_store (x := .tmp 5) (M := [.int .i64 k1, .int .i64 0, .int .i64 0, .slice none 0 0]) Try.agg24 rfl rfl rfl (by simp [Value.oneCell']) hb4 (by simp [Value.cells]) ?_); intro w5 hb5 hk5 hz5; have Yz5 := hide hz5; clear hz5; rw [put_whole _ _ (by simp [Value.cells])] at hb5)
    | (with_reducible refine stop_fa ?_)
    | fail)
  refine hide ?_
  obtain ⟨b5, hb5e⟩ : ∃ b, b = w3.heap.size := ⟨_, rfl⟩
  rw [← hb5e] at hb5 ⊢
  have hk35 : Kept (fun _ => False) w3 w5 := hk4.trans hk5 (fun i hi h => by omega)
  have HX : Hid (RefAt w5 bs S1 E1) := hide (hk35.blk HX3.out (fun h => h))
  have HB2 := hide (hk35.blk HB23.out (fun h => h))
  have HKf := hide (HK3.out.trans hk35 (fun _ _ h => h))
  have H5 : Hid (Blk w5 b5 [.int .i64 k1, .int .i64 0, .int .i64 0, .slice none 0 0] 24) := hide hb5
  have Hb25 : Hid (b2 ≠ b5) := hide (by have := HB23.out.lt; omega)
  have Hbs5 : Hid (bs ≠ b5) := hide (by have := Blk.lt HX3.out; omega)
  have Hb5w : Hid (w.heap.size ≤ b5) := hide (by have := HK3.out.size; omega)
  have Hw3 : Hid (b5 < w5.heap.size) := hide hb5.lt
  clear hb4 hb5 hk4 hk5 hk35 hb5e Yz4 Yz5 HX3 HB23 HK3
  have c0 : w5.cell? ⟨b5, 0, none⟩ = some (.int .i64 k1) := H5.out.cell 0
  by_cases hk2 : k1 = 2
  · have HB2n : Hid (WsOff (.slice none 0 0) [] b2) := hide (WsOff.nil b2)
    have HWs : Hid (WsAt w5 (.slice none 0 0) []) := hide (WsAt.nil _)
    have HWl : Hid (([] : List Wv).length ≤ 100000) := hide (by decide)
    have HGD : Hid (GD B ⟨k1, 0, 0, ([] : List Wv).map Wv.wr⟩ S1 E1) := hide (by
      have h := Hk1.out
      refine gd_of ?_
      unfold readR
      rw [← h, if_pos hk2]
      rfl)
    subst hk2
    clear c0
    have c5_0 : w5.cell? ⟨b5, 0, none⟩ = some (.int .i64 2) := H5.out.cell 0
    have c5_1 : w5.cell? ⟨b5, 1, none⟩ = some (.int .i64 0) := H5.out.cell 1
    have c5_2 : w5.cell? ⟨b5, 2, none⟩ = some (.int .i64 0) := H5.out.cell 2
    have c5_3 : w5.cell? ⟨b5, 3, none⟩ = some (.slice none 0 0) := H5.out.cell 3
    have cx1 : w5.cell? ⟨bs, 1, none⟩ = some (.int .i64 E1) := Blk.cell HX.out 1
    have cx0 : w5.cell? ⟨bs, 0, none⟩ = some (.string (strN S1)) := Blk.cell HX.out 0
    by_cases hE0 : E1 = 0
    · have HGD0 : Hid (GD B ⟨2, 0, 0, ([] : List Wv).map Wv.wr⟩ S1 0) := hide (by have h := HGD.out; rw [hE0] at h; exact h)
      by_cases hS0 : S1.length = 0
      · have hsd : strN S1 = ⟨#[]⟩ := by rw [List.eq_nil_of_length_eq_zero hS0]; rfl
        have HSl := hide hS0
        rw [hE0] at cx1
        rw [hsd] at cx0
        clear hS0 hsd
        obtain ⟨rb, hrb⟩ : ∃ b, b = rightR ⟨2, 0, 0, ([] : List Wv).map Wv.wr⟩ := ⟨_, rfl⟩
        have HRB := hide hrb
        have HRC := hide (rrightP_at w5 2 0 0 none 0 0 ([] : List Wv) HWs.out (by have := HWl.out; omega) rb hrb.symm)
        clear hrb hE0
        go_wp2_with fail
        refine HRC.out.mono ?_
        rintro e wz ⟨rfl, hkz⟩
        have H5z := hide (hkz.blk H5.out (fun h => h))
        have HB2z := hide (hkz.blk HB2.out (fun h => h))
        have HKz := hide (HKf.out.trans hkz (fun _ _ h => h))
        have HWz := hide (HWs.out.kept hkz)
        clear c5_0 c5_1 c5_2 c5_3 cx0 cx1 hkz
        cases rb with
        | true =>
          have HY : Hid (getR B = some (Rv.rc ⟨2, 0, 0, ⟨none, 0, 0⟩, ([] : List Wv)⟩)) := hide (HGD0.out.yes HSl.out HRB.out.symm)
          go_wp2_with (first
            | ((with_reducible refine aw_load (t := 24) (M := [.int .i64 2, .int .i64 0, .int .i64 0, .slice none 0 0]) Try.agg24 rfl H5z.out (by simp) (by simp) ?_))
            | ((with_reducible refine aw_store (x := .tmp 2) (M := [.int .i64 2, .int .i64 0, .int .i64 0, .slice none 0 0]) Try.agg24 rfl rfl rfl (by simp [Value.oneCell']) HB2z.out (by simp) ?_); intro wy hby hky hzy; rw [put_whole _ _ (by simp)] at hby; clear hzy)
            | fail)
          refine bodyPost_ret (results_cell2 (t := 2) (u := 3) (ty := 24) rfl Try.agg24 rfl hby rfl) rfl ?_
          refine ⟨⟨2, 0, 0, ⟨none, 0, 0⟩, ([] : List Wv)⟩, true, rfl, ⟨HWz.out.keptB2 HB2z.out hky HB2n.out, .inl ⟨HY.out, rfl⟩⟩, HKz.out.trans hky (fun i hi h => by have := Hb2w.out; omega)⟩
        | false =>
          have HNo := hide (HGD0.out.wrong HRB.out.symm)
          go_wp2_with (first
            | ((with_reducible refine aw_store (x := .tmp 2) (M := [.int .i64 0, .int .i64 0, .int .i64 0, .slice none 0 0]) Try.agg24 rfl rfl rfl (by simp [Value.oneCell']) HB2z.out (by simp) ?_); intro wy hby hky hzy; rw [put_whole _ _ (by simp)] at hby; clear hzy)
            | fail)
          refine bodyPost_ret (results_cell2 (t := 2) (u := 3) (ty := 24) rfl Try.agg24 rfl hby rfl) rfl ?_
          exact ⟨rv0, false, rfl, ⟨WsAt.nil _, .inr ⟨HNo.out, rfl, rfl⟩⟩, HKz.out.trans hky (fun i hi h => by have := Hb2w.out; omega)⟩
      · have hsd : ¬ strN S1 = ⟨#[]⟩ := fun h => by
          have h2 := congrArg ByteArray.size h
          rw [strN_size] at h2
          exact hS0 h2
        have HNo := hide (HGD0.out.left hS0)
        rw [hE0] at cx1
        have hS0' := hS0
        clear hS0 hE0
        have hsd2 : ¬ (strN S1).toList = [] := fun h => by
          rw [ByteArray.toList_eq, strN_data] at h
          simp at h
          exact hS0' (by rw [h]; rfl)
        clear hS0'
        generalize strN S1 = sd at *
        have H5z := H5
        have HB2z := HB2
        have HKz := HKf
        go_wp2_with (first
          | ((with_reducible refine aw_store (x := .tmp 2) (M := [.int .i64 0, .int .i64 0, .int .i64 0, .slice none 0 0]) Try.agg24 rfl rfl rfl (by simp [Value.oneCell']) HB2z.out (by simp) ?_); intro wy hby hky hzy; rw [put_whole _ _ (by simp)] at hby; clear hzy)
          | fail)
        refine bodyPost_ret (results_cell2 (t := 2) (u := 3) (ty := 24) rfl Try.agg24 rfl hby rfl) rfl ?_
        exact ⟨rv0, false, rfl, ⟨WsAt.nil _, .inr ⟨HNo.out, rfl, rfl⟩⟩, HKz.out.trans hky (fun i hi h => by have := Hb2w.out; omega)⟩
    · have HNo := hide (HGD.out.err hE0)
      have H5z := H5
      have HB2z := HB2
      have HKz := HKf
      go_wp2_with (first
        | ((with_reducible refine aw_store (x := .tmp 2) (M := [.int .i64 0, .int .i64 0, .int .i64 0, .slice none 0 0]) Try.agg24 rfl rfl rfl (by simp [Value.oneCell']) HB2z.out (by simp) ?_); intro wy hby hky hzy; rw [put_whole _ _ (by simp)] at hby; clear hzy)
        | fail)
      refine bodyPost_ret (results_cell2 (t := 2) (u := 3) (ty := 24) rfl Try.agg24 rfl hby rfl) rfl ?_
      exact ⟨rv0, false, rfl, ⟨WsAt.nil _, .inr ⟨HNo.out, rfl, rfl⟩⟩, HKz.out.trans hky (fun i hi h => by have := Hb2w.out; omega)⟩
  · go_wp2_with fail
    obtain ⟨⟨t1, S2, E2⟩, hsc⟩ : ∃ r, r = scanNum S1 E1 4 := ⟨_, rfl⟩
    have HN := hide (refnum_at w5 bs S1 HSS1.out.1 E1 HX.out (by have := HSS1.out.2; omega) 4 (by decide))
    have HSS2 : Hid ((∀ x ∈ S2, x < 256) ∧ S2.length ≤ B.length) := hide (by
      have h1 := scanNum_lt (E := E1) (w := 4) HSS1.out.1
      have h2 := scanNum_len S1 E1 4
      rw [← hsc] at h1 h2
      exact ⟨h1, Nat.le_trans h2 HSS1.out.2⟩)
    have Ht1 := hide hsc
    rw [← hsc] at HN
    clear hsc
    refine HN.out.mono ?_
    rintro e w6 ⟨rfl, hxw6, hkw6⟩
    clear HN
    have HX6 : Hid (RefAt w6 bs S2 E2) := hide hxw6
    have H56 := hide (hkw6.blk H5.out (fun h => Hbs5.out h.symm))
    have HB26 := hide (hkw6.blk HB2.out Hb2s.out)
    have HK6 := hide (HKf.out.trans hkw6 (fun i hi h => by have := Hbsw.out; omega))
    clear hxw6 hkw6 HX H5 HB2 HKf c0
    go_wp2_with (with_reducible refine stop_store 3 ?_)
    refine hide ?_
    refine aw_store1 (v := .int .i64 t1) (off := 1) Hi3.out Hs3.out rfl rfl rfl rfl H56.out (by simp) ?_
    intro w7 hb7 hk7 hz7
    have H57 : Hid (Blk w7 b5 [.int .i64 k1, .int .i64 t1, .int .i64 0, .slice none 0 0] 24) := hide hb7
    have HX : Hid (RefAt w7 bs S2 E2) := hide (hk7.blk HX6.out Hbs5.out)
    have HB27 := hide (hk7.blk HB26.out Hb25.out)
    have HK7 := hide (HK6.out.trans hk7 (fun i hi h => by have := Hb5w.out; omega))
    clear hb7 hk7 hz7 HX6 H56 HB26 HK6
    go_wp2_with fail
    obtain ⟨⟨n1, S3, E3⟩, hsc⟩ : ∃ r, r = scanNum S2 E2 8 := ⟨_, rfl⟩
    have HN := hide (refnum_at w7 bs S2 HSS2.out.1 E2 HX.out (by have := HSS2.out.2; omega) 8 (by decide))
    have HSS3 : Hid ((∀ x ∈ S3, x < 256) ∧ S3.length ≤ B.length) := hide (by
      have h1 := scanNum_lt (E := E2) (w := 8) HSS2.out.1
      have h2 := scanNum_len S2 E2 8
      rw [← hsc] at h1 h2
      exact ⟨h1, Nat.le_trans h2 HSS2.out.2⟩)
    have Hn1 := hide hsc
    rw [← hsc] at HN
    clear hsc
    refine HN.out.mono ?_
    rintro e w8 ⟨rfl, hxw8, hkw8⟩
    clear HN
    have HX8 : Hid (RefAt w8 bs S3 E3) := hide hxw8
    have H58 := hide (hkw8.blk H57.out (fun h => Hbs5.out h.symm))
    have HB28 := hide (hkw8.blk HB27.out Hb2s.out)
    have HK8 := hide (HK7.out.trans hkw8 (fun i hi h => by have := Hbsw.out; omega))
    clear hxw8 hkw8 HX H57 HB27 HK7
    go_wp2_with (with_reducible refine stop_store 3 ?_)
    refine hide ?_
    refine aw_store1 (v := .int .i64 n1) (off := 2) Hi3.out Hs3.out rfl rfl rfl rfl H58.out (by simp) ?_
    intro w9 hb9 hk9 hz9
    have H5 : Hid (Blk w9 b5 [.int .i64 k1, .int .i64 t1, .int .i64 n1, .slice none 0 0] 24) := hide hb9
    have HX : Hid (RefAt w9 bs S3 E3) := hide (hk9.blk HX8.out Hbs5.out)
    have HB2 := hide (hk9.blk HB28.out Hb25.out)
    have HKf := hide (HK8.out.trans hk9 (fun i hi h => by have := Hb5w.out; omega))
    clear hb9 hk9 hz9 HX8 H58 HB28 HK8
    have c0 : w9.cell? ⟨b5, 0, none⟩ = some (.int .i64 k1) := H5.out.cell 0
    by_cases hk3 : k1 = 3
    · subst hk3
      have HRd : Hid (readR B = (⟨3, t1, n1, (scanWs (scanNum S3 E3 2).1.toNat (scanNum S3 E3 2).2.1 (scanNum S3 E3 2).2.2).1⟩, (scanWs (scanNum S3 E3 2).1.toNat (scanNum S3 E3 2).2.1 (scanNum S3 E3 2).2.2).2)) := hide (by
        unfold readR
        rw [← Hk1.out]
        simp only []
        rw [← Ht1.out]
        simp only []
        rw [← Hn1.out]
        rfl)
      go_wp2_with fail
      obtain ⟨⟨m1, S4, E4⟩, hsc⟩ : ∃ r, r = scanNum S3 E3 2 := ⟨_, rfl⟩
      have HN := hide (refnum_at w9 bs S3 HSS3.out.1 E3 HX.out (by have := HSS3.out.2; omega) 2 (by decide))
      have HSS4 : Hid ((∀ x ∈ S4, x < 256) ∧ S4.length ≤ B.length) := hide (by
        have h1 := scanNum_lt (E := E3) (w := 2) HSS3.out.1
        have h2 := scanNum_len S3 E3 2
        rw [← hsc] at h1 h2
        exact ⟨h1, Nat.le_trans h2 HSS3.out.2⟩)
      have Hm1 := hide hsc
      rw [← hsc] at HN
      clear hsc
      refine HN.out.mono ?_
      rintro e w10 ⟨rfl, hxw10, hkw10⟩
      clear HN
      have HX10 : Hid (RefAt w10 bs S4 E4) := hide hxw10
      have H510 := hide (hkw10.blk H5.out (fun h => Hbs5.out h.symm))
      have HB210 := hide (hkw10.blk HB2.out Hb2s.out)
      have HK10 := hide (HKf.out.trans hkw10 (fun i hi h => by have := Hbsw.out; omega))
      have HRd2 := HRd.out
      rw [← Hm1.out] at HRd2
      obtain ⟨nN, hnN⟩ : ∃ nN : Nat, m1 = nN := by
        obtain ⟨p, hp⟩ := scan_nat S3 E3 2
        rw [← Hm1.out] at hp
        exact ⟨p, hp⟩
      subst hnN
      have hnNb : nN ≤ 9223372036854775807 := by
        have := scan_lt S3 E3 2
        rw [← Hm1.out] at this
        simp only at this
        omega
      simp only [Int.toNat_natCast] at HRd2
      have HRD := hide HRd2
      clear hxw10 hkw10 HX H5 HB2 HKf c0 HRd HRd2
      go_wp2
      go_loopw [7] (fun iv W => ∃ (i : Nat) (S : List Nat) (E : Int) (sl : Sl) (ws : List Wv), iv = .int .i64 i ∧ i ≤ nN ∧ Hid (RGI w10 bs b5 t1 n1 nN S4 E4 B.length W i S E sl ws)) (fun iv _ => nN - (intOf iv).toNat)
      case atStart => exact ⟨0, S4, E4, ⟨none, 0, 0⟩, [], rfl, Nat.zero_le _, hide ⟨HX10.out, H510.out, WsRow.nil _, by simp, fun k h => by simp [Value.ownBlock, Sl.v] at h, by simp, by simp, Kept.refl _ _, HSS4.out.1, by simpa using HSS4.out.2⟩⟩
      case round =>
        obtain ⟨i, S5, E5, ⟨sa, sn, sc⟩, ws, rfl, hi, HI⟩ := hrel
        obtain ⟨h1, h2, h3, h4, h5, h6, h7, h8, h9, h10⟩ := HI.out
        have HX : Hid (RefAt wr bs S5 E5) := hide h1
        have H5 : Hid (Blk wr b5 [.int .i64 3, .int .i64 t1, .int .i64 n1, .slice sa sn sc] 24) := hide h2
        have HRow : Hid (WsRow wr (.slice sa sn sc) ws) := hide h3
        have HSrc := hide h4
        have HOw := hide h5
        have HVx := hide h6
        have HSc := hide h7
        have HKl := hide h8
        have HSS5 : Hid ((∀ x ∈ S5, x < 256) ∧ S5.length ≤ B.length) := hide ⟨h9, by omega⟩
        have HLS := hide h10
        have HLen : Hid (ws.length ≤ 100000) := hide (by have := Hl.out; omega)
        have HKf := hide (HK10.out.trans h8 (fun i hi h => by have := Hbsw.out; have := Hb5w.out; rcases h with h | h <;> omega))
        have HB2 := hide (h8.blk HB210.out (fun h => by rcases h with h | h; exact Hb2s.out h; exact Hb25.out h))
        have HWs0 := hide (h3.at h4 (by have := HLen.out; omega))
        have HB2n : Hid (WsOff (.slice sa sn sc) ws b2) := hide (by
          have hb := HB210.out.lt
          refine ⟨fun k hk e => ?_, fun x hx k hk e => ?_⟩
          · have := h5 k (own_vX h3 hk); omega
          · have := (h6 x hx k hk).1; omega)
        clear h1 h2 h3 h4 h5 h6 h7 h8 h9 h10 HI
        have hx1 : wr.cell? ⟨bs, 1, none⟩ = some (.int .i64 E5) := Blk.cell HX.out 1
        by_cases hlt : i < nN
        · by_cases hE : E5 = 0
          · subst hE
            go_wp2_with fail
            obtain ⟨⟨kq, S6, E6⟩, hsc⟩ : ∃ r, r = scanNum S5 0 2 := ⟨_, rfl⟩
            have HN := hide (refnum_at wr bs S5 HSS5.out.1 0 HX.out (by have := HSS5.out.2; omega) 2 (by decide))
            have HSS6 : Hid ((∀ x ∈ S6, x < 256) ∧ S6.length ≤ B.length) := hide (by
              have h1 := scanNum_lt (E := 0) (w := 2) HSS5.out.1
              have h2 := scanNum_len S5 0 2
              rw [← hsc] at h1 h2
              exact ⟨h1, Nat.le_trans h2 HSS5.out.2⟩)
            have Hkq := hide hsc
            rw [← hsc] at HN
            clear hsc
            refine HN.out.mono ?_
            rintro e w6 ⟨rfl, hxw6, hkw6⟩
            clear HN
            have HX6 : Hid (RefAt w6 bs S6 E6) := hide hxw6
            have H56 := hide (hkw6.blk H5.out (fun h => Hbs5.out h.symm))
            have HB26 := hide (hkw6.blk HB2.out Hb2s.out)
            have HKl6 := hide (HKl.out.trans hkw6 (fun i hi h => .inl h))
            have HRow6 := hide (HRow.out.kept hkw6 (fun k hk e => by have := HOw.out k hk; have := Blk.lt HX10.out; omega))
            have HSrc6 : Hid (∀ x ∈ ws, Src w6 x.s.v x.B) := hide (fun x hx => (HSrc.out x hx).keptX hkw6 (fun _ k hk e => by have := (HVx.out x hx k hk).1; have := Blk.lt HX10.out; omega))
            have HVx6 : Hid (∀ x ∈ ws, ∀ k, vX x.s.v k → w10.heap.size ≤ k ∧ k < w6.heap.size ∧ (Value.slice sa sn sc).ownBlock ≠ some k) := hide (fun x hx k hk => ⟨(HVx.out x hx k hk).1, by have := (HVx.out x hx k hk).2.1; have := hkw6.size; omega, (HVx.out x hx k hk).2.2⟩)
            have HKf6 := hide (HKf.out.trans hkw6 (fun i hi h => by have := Hbsw.out; omega))
            have HWs6 := hide (HWs0.out.keptX hkw6 (fun k hk e => by have := HOw.out k (own_vX HRow.out hk); have := Blk.lt HX10.out; omega) (fun x hx k hk e => by have := (HVx.out x hx k hk).1; have := Blk.lt HX10.out; omega))
            obtain ⟨j, hj⟩ : ∃ j, nN - i = j + 1 := ⟨nN - i - 1, by omega⟩
            have HSc2 := hide HSc.out
            clear hxw6 hkw6 hx1 HX H5 HB2 HKl HRow HSrc HVx HKf HWs0
            have hx0 : w6.cell? ⟨bs, 0, none⟩ = some (.string (strN S6)) := Blk.cell HX6.out 0
            have hsz : (strN S6).size = S6.length := strN_size S6
            by_cases h64 : S6.length < 64
            · have HGD : Hid (GD B ⟨3, t1, n1, ws.map Wv.wr⟩ S6 20) := hide (by
                have h := HRD.out
                rw [HSc2.out, hj, scanWs, if_neg (by simp), ← Hkq.out] at h
                simp only [] at h
                rw [if_pos h64] at h
                simp only [List.append_nil] at h
                exact gd_of h)
              have hszi : (S6.length : Int) < 64 := by omega
              have HNo := hide (HGD.out.err (by decide))
              clear HSc HSc2 hj
              obtain ⟨ln, hln⟩ : ∃ ln, ln = S6.length := ⟨_, rfl⟩
              rw [← hln] at hsz hszi
              clear hln h64
              go_wp2_with (with_reducible refine stop_store 3 ?_)
              refine hide ?_
              refine aw_store1 (v := .int .i64 20) (off := 1) Hi3.out Hs3.out rfl rfl rfl rfl HX6.out (by simp) ?_
              intro wq hbq hkq hzq
              clear hx0 hsz hszi
              have HXq : Hid (RefAt wq bs S6 20) := hide hbq
              have hcq : wq.cell? ⟨bs, 1, none⟩ = some (.int .i64 20) := Blk.cell HXq.out 1
              have H5z := hide (hkq.blk H56.out (fun h => Hbs5.out h.symm))
              have HB2z := hide (hkq.blk HB26.out Hb2s.out)
              have HKz := hide (HKf6.out.trans hkq (fun i hi h => by have := Hbsw.out; omega))
              clear hbq hkq hzq
              go_wp2_with (first
                | ((with_reducible refine aw_store (x := .tmp 2) (M := [.int .i64 0, .int .i64 0, .int .i64 0, .slice none 0 0]) Try.agg24 rfl rfl rfl (by simp [Value.oneCell']) HB2z.out (by simp) ?_); intro wy hby hky hzy; rw [put_whole _ _ (by simp)] at hby; clear hzy)
                | fail)
              refine bodyPost_ret (results_cell2 (t := 2) (u := 3) (ty := 24) rfl Try.agg24 rfl hby rfl) rfl ?_
              exact ⟨rv0, false, rfl, ⟨WsAt.nil _, .inr ⟨HNo.out, rfl, rfl⟩⟩, HKz.out.trans hky (fun i hi h => by have := Hb2w.out; omega)⟩
            · have he6 : E6 = 0 := Classical.byContradiction fun hne => h64 (by
                have := scan2_bad (S := S5) HSS5.out.1 (by rw [← Hkq.out]; exact hne)
                rw [← Hkq.out] at this
                exact this)
              have hdr : S6 = S5.drop 2 ∧ 2 ≤ S5.length := by
                have := scan2_ok (S := S5) (by rw [← Hkq.out]; exact he6)
                rw [← Hkq.out] at this
                exact this
              have HLS6 : Hid (S6.length + 2 = S5.length) := hide (by rw [hdr.1, List.length_drop]; omega)
              have H64 : Hid (64 ≤ S6.length) := hide (by omega)
              have HT64 : Hid ((S6.take 64).length = 64) := hide (by rw [List.length_take]; omega)
              have HScN : Hid (scanWs nN S4 E4 = ((ws ++ [(⟨kq, ⟨none, 0, 0⟩, S6.take 64⟩ : Wv)]).map Wv.wr ++ (scanWs (nN - (i + 1)) (S6.drop 64) E6).1, (scanWs (nN - (i + 1)) (S6.drop 64) E6).2)) := hide (by
                rw [HSc2.out, hj, scanWs, if_neg (by simp), ← Hkq.out]
                simp only []
                rw [if_neg h64, show nN - (i + 1) = j by omega, List.map_append, List.append_assoc]
                rfl)
              have hszi : ¬ (S6.length : Int) < 64 := by omega
              obtain ⟨ln, hln⟩ : ∃ ln, ln = S6.length := ⟨_, rfl⟩
              rw [← hln] at hsz hszi
              clear HSc HSc2 hj he6 hdr h64 hln
              have H5 := H56
              have HX := HX6
              have HRow := HRow6
              go_wp2
              clear hx0 hsz hszi
              refine hold_frame (p := fun fr => Code.wp Try.prog _ _ fr _) ?_
              intro fr hfr
              have e4 : fr.eval (.tmp 4) = .pointer (some ⟨bs, 0, none⟩) := by rw [hfr.out]; rfl
              have e5 : fr.eval (.tmp 5) = .pointer (some ⟨b5, 0, none⟩) := by rw [hfr.out]; rfl
              have e8 : fr.eval (.tmp 8) = .int .i64 kq := by rw [hfr.out]; rfl
              have hts : fr.tmps.size = 93 := by rw [hfr.out]; rfl
              refine region_S 13 (fun U => Blk U b5 [.int .i64 3, .int .i64 t1, .int .i64 n1, .slice sa sn sc] 24 ∧ RefAt U bs S6 E6) Try.mixed ?_
              intro w0 hkw hheap
              have hS0 := (⟨hkw.blk H5.out (fun h => h), hkw.blk HX.out (fun h => h)⟩ : (fun U => Blk U b5 [.int .i64 3, .int .i64 t1, .int .i64 n1, .slice sa sn sc] 24 ∧ RefAt U bs S6 E6) w0)
              refine tkS 0 53 (v := .pointer (some ⟨b5, 3, none⟩)) hS0 rfl rfl (by kernel_rfl) (by kernel_rfl) (by kernel_rfl) (by kernel_rfl) (wanted_none rfl) (fun _ _ _ h => h) (fun U hU => r_f24_3 (by simp [eval_put_ne, eval_put_eq, size_put, hts, e5])) ?_
              refine tkS 1 54 (v := .slice sa sn sc) hS0 rfl rfl (by kernel_rfl) (by kernel_rfl) (by kernel_rfl) (by kernel_rfl) (wanted_none rfl) (fun _ _ _ h => h) (fun U hU => r_ld22 (b := b5) (o := 3) (by simp [eval_put_ne, eval_put_eq, size_put, hts]) (hU.1.cell 3)) ?_
              refine tkS 2 55 (v := .int .i64 kq) hS0 rfl rfl (by kernel_rfl) (by kernel_rfl) (by kernel_rfl) (by kernel_rfl) (wanted_none rfl) (fun _ _ _ h => h) (fun U hU => r_move (by simp [eval_put_ne, eval_put_eq, size_put, hts, e8])) ?_
              refine tkS 3 56 (v := .pointer (some ⟨bs, 0, none⟩)) hS0 rfl rfl (by kernel_rfl) (by kernel_rfl) (by kernel_rfl) (by kernel_rfl) (wanted_none rfl) (fun _ _ _ h => h) (fun U hU => r_move (by simp [eval_put_ne, eval_put_eq, size_put, hts, e4])) ?_
              refine tkS 4 57 (v := .pointer (some ⟨bs, 0, none⟩)) hS0 rfl rfl (by kernel_rfl) (by kernel_rfl) (by kernel_rfl) (by kernel_rfl) (wanted_none rfl) (fun _ _ _ h => h) (fun U hU => r_nilChk (by simp [eval_put_ne, eval_put_eq, size_put, hts])) ?_
              refine tkS 5 58 (v := .pointer (some ⟨bs, 0, none⟩)) hS0 rfl rfl (by kernel_rfl) (by kernel_rfl) (by kernel_rfl) (by kernel_rfl) (wanted_none rfl) (fun _ _ _ h => h) (fun U hU => r_f56_0 (by simp [eval_put_ne, eval_put_eq, size_put, hts])) ?_
              refine tkS 6 59 (v := .string (strN S6)) hS0 rfl rfl (by kernel_rfl) (by kernel_rfl) (by kernel_rfl) (by kernel_rfl) (wanted_none rfl) (fun _ _ _ h => h) (fun U hU => r_ld9 (b := bs) (o := 0) (by simp [eval_put_ne, eval_put_eq, size_put, hts]) (Blk.cell hU.2 0)) ?_
              refine tkS 7 60 (v := .string (strN (S6.take 64))) hS0 rfl rfl (by kernel_rfl) (by kernel_rfl) (by kernel_rfl) (by kernel_rfl) (wanted_none rfl) (fun _ _ _ h => h) (fun U hU => r_hi9 (B := S6) 64 H64.out (by simp [eval_put_ne, eval_put_eq, size_put, hts]) rfl) ?_
              obtain ⟨wc, ct, hct, hsc, hkc⟩ := run_bytesN w0 (S6.take 64) (fun x hx => HSS6.out.1 x (List.mem_of_mem_take hx))
              rw [HT64.out] at hct hsc
              have hSc : (fun U => Blk U b5 [.int .i64 3, .int .i64 t1, .int .i64 n1, .slice sa sn sc] 24 ∧ RefAt U bs S6 E6) wc := ⟨hkc.blk hS0.1 (fun h => h), hkc.blk hS0.2 (fun h => h)⟩
              refine oneVS 8 61 (v := .slice (some ⟨w0.heap.size, 0, none⟩) 64 ct) (by kernel_rfl) rfl rfl (wanted_none rfl) (r_cvN (by simp [eval_put_ne, eval_put_eq, size_put, hts]) hct) hSc ?_
              refine tkS 9 62 (v := .agg #[.int .i64 kq, .slice (some ⟨w0.heap.size, 0, none⟩) 64 ct]) hSc rfl rfl (by kernel_rfl) (by kernel_rfl) (by kernel_rfl) (by kernel_rfl) (wanted_none rfl) (fun _ _ _ h => h) (fun U hU => built40 (by simp [eval_put_ne, eval_put_eq, size_put, hts]) (by simp [eval_put_ne, eval_put_eq, size_put, hts])) ?_
              have hbA := Blk.new wc [.int .i64 kq, .slice (some ⟨w0.heap.size, 0, none⟩) 64 ct] 40
              have hkA : Kept (fun _ => False) wc (wc.alloc (.cells [.int .i64 kq, .slice (some ⟨w0.heap.size, 0, none⟩) 64 ct].toArray 40)) := Kept.alloc _ _ _
              have hSd := (⟨hkA.blk hSc.1 (fun h => h), hkA.blk hSc.2 (fun h => h)⟩ : (fun U => Blk U b5 [.int .i64 3, .int .i64 t1, .int .i64 n1, .slice sa sn sc] 24 ∧ RefAt U bs S6 E6) _)
              refine oneVS 10 63 (v := .slice (some ⟨wc.heap.size, 0, none⟩) 1 1) (by kernel_rfl) rfl rfl (wanted_none rfl) (run_buildSlice_one (M := [.int .i64 kq, .slice (some ⟨w0.heap.size, 0, none⟩) 64 ct]) Try.underlying22 Hi40.out Hz40.out Hs40.out (by simp) (by simp) (.inl (by simp [eval_put_ne, eval_put_eq, size_put, hts]))) hSd ?_
              generalize wc.alloc (.cells [.int .i64 kq, .slice (some ⟨w0.heap.size, 0, none⟩) 64 ct].toArray 40) = wd at hbA hkA hSd ⊢
              have hk0d : Kept (fun _ => False) w6 wd := (hkw.trans hkc (fun _ _ h => h)).trans hkA (fun _ _ h => h)
              have hwd : WsAt wd (.slice (some ⟨wc.heap.size, 0, none⟩) 1 1) [⟨kq, ⟨some ⟨w0.heap.size, 0, none⟩, 64, ct⟩, S6.take 64⟩] := ws_blk hbA rfl (fun y hy => by obtain rfl := List.mem_singleton.1 hy; exact hsc.kept hkA) 1 rfl (by decide)
              obtain ⟨v', wf, hr, hrow, hkf, hob⟩ := (HRow.out.kept hk0d (fun _ _ h => h)).app hwd (by have := HLen.out; simp; omega) 22
              obtain ⟨va, vc, ev'⟩ := hrow.sl
              have hl' : (ws ++ [(⟨kq, ⟨some ⟨w0.heap.size, 0, none⟩, 64, ct⟩, S6.take 64⟩ : Wv)]).length = ws.length + 1 := by simp
              rw [hl'] at ev'
              subst ev'
              have hne5 : (Value.slice sa sn sc).ownBlock ≠ some b5 := ownsRow_blk_ne (HRow.out.kept hk0d (fun _ _ h => h)) hSd.1 (by decide)
              have hnes : (Value.slice sa sn sc).ownBlock ≠ some bs := ownsRow_blk_ne (HRow.out.kept hk0d (fun _ _ h => h)) hSd.2 (by decide)
              have hSe := (⟨hkf.blk hSd.1 hne5, hkf.blk hSd.2 hnes⟩ : (fun U => Blk U b5 [.int .i64 3, .int .i64 t1, .int .i64 n1, .slice sa sn sc] 24 ∧ RefAt U bs S6 E6) wf)
              refine oneVS 11 64 (v := .slice va (ws.length + 1) vc) (by kernel_rfl) rfl rfl (wanted_none rfl) (r_app (by simp [eval_put_ne, eval_put_eq, size_put, hts]) (by simp [eval_put_ne, eval_put_eq, size_put, hts]) hr) hSe ?_
              refine tkS 12 65 (v := .pointer (some ⟨b5, 3, none⟩)) hSe rfl rfl (by kernel_rfl) (by kernel_rfl) (by kernel_rfl) (by kernel_rfl) (wanted_none rfl) (fun _ _ _ h => h) (fun U hU => r_f24_3 (by simp [eval_put_ne, eval_put_eq, size_put, hts, e5])) ?_
              refine lastS (by kernel_rfl) rfl (wanted_none rfl) (run_store_one (v := .slice va (ws.length + 1) vc) (off := 3) Hi22.out Hs22.out (by simp [eval_put_ne, eval_put_eq, size_put, hts]) (by simp [eval_put_ne, eval_put_eq, size_put, hts]) rfl rfl hSe.1 (by simp)) (by kernel_rfl) ?_
              have hks := Kept.setRow (S := fun k => k = b5) wf b5 (List.set [.int .i64 3, .int .i64 t1, .int .i64 n1, .slice sa sn sc] 3 (.slice va (ws.length + 1) vc)).toArray rfl
              have h5g := hSe.1.setRow (List.set [.int .i64 3, .int .i64 t1, .int .i64 n1, .slice sa sn sc] 3 (.slice va (ws.length + 1) vc))
              have hxg : RefAt _ bs S6 E6 := hks.blk hSe.2 Hbs5.out
              obtain ⟨wg, hwg⟩ : ∃ wg, wg = wf.setRow b5 (List.set [.int .i64 3, .int .i64 t1, .int .i64 n1, .slice sa sn sc] 3 (.slice va (ws.length + 1) vc)).toArray := ⟨_, rfl⟩
              rw [← hwg] at hks h5g hxg ⊢
              rw [hfr.out]
              clear hfr e4 e5 e8 hts
              simp only [put_lit, put_none, List.set_cons_succ, List.set_cons_zero]
              have hlo : ∀ k, (Value.slice sa sn sc).ownBlock = some k → k < w6.heap.size := fun k hk => ownsRow_lt HRow.out k hk
              have hz0 := hkw.size
              have hzc := hkc.size
              have hzA := hkA.size
              have hzf := hkf.size
              have hzg := hks.size
              have hgc : w0.heap.size < wc.heap.size := by
                have h0 := hsc
                obtain ⟨_, _, e, _, _, h3, _⟩ := h0
                simp only [Value.slice.injEq] at e
                obtain ⟨sb, so, e2, hc⟩ := h3 (by rw [HT64.out]; decide)
                rw [e2] at e
                obtain ⟨e, _⟩ := e
                cases e
                have hlt : 0 < (S6.take 64).length := by rw [HT64.out]; decide
                exact World.block_lt_of_cell? wc _ (hc 0 _ (BV_get (S6.take 64) 0 hlt))
              have hb10 := Blk.lt HX10.out
              have h510 := H510.out.lt
              have h610 : w10.heap.size ≤ w6.heap.size := HKl6.out.size
              have hrowg : WsRow wg (.slice va (ws.length + 1) vc) (ws ++ [⟨kq, ⟨some ⟨w0.heap.size, 0, none⟩, 64, ct⟩, S6.take 64⟩]) := hrow.kept hks (fun k hk e => ownsRow_blk_ne hrow hSe.1 (by decide) (by rw [hk, e]))
              have howg : ∀ k, (Value.slice va (ws.length + 1) vc).ownBlock = some k → w10.heap.size ≤ k ∧ k ≠ bs := by
                intro k hk
                rcases hob with e | e
                · rw [e] at hk; have := HOw.out k hk; exact ⟨this, by omega⟩
                · rw [e] at hk; cases hk; exact ⟨by omega, by omega⟩
              have hsrcg : ∀ x ∈ (ws ++ [(⟨kq, ⟨some ⟨w0.heap.size, 0, none⟩, 64, ct⟩, S6.take 64⟩ : Wv)]), Src wg x.s.v x.B := by
                intro x hx
                rcases List.mem_append.1 hx with hx | hx
                · refine ((((HSrc6.out x hx).kept hk0d).keptX hkf (fun _ k hk e => (HVx6.out x hx k hk).2.2 e)).keptX hks (fun _ k hk e => ?_))
                  have := (HVx6.out x hx k hk).1; omega
                · obtain rfl := List.mem_singleton.1 hx
                  refine ((hsc.kept hkA).keptX hkf (fun _ k hk e => ?_)).keptX hks (fun _ k hk e => ?_)
                  · obtain ⟨_, _, _, e2⟩ := hk
                    simp only [Sl.v, Value.slice.injEq, Option.some.injEq, Addr.mk.injEq] at e2
                    have := hlo k e; omega
                  · obtain ⟨_, _, _, e2⟩ := hk
                    simp only [Sl.v, Value.slice.injEq, Option.some.injEq, Addr.mk.injEq] at e2
                    omega
              have hvxg : ∀ x ∈ (ws ++ [(⟨kq, ⟨some ⟨w0.heap.size, 0, none⟩, 64, ct⟩, S6.take 64⟩ : Wv)]), ∀ k, vX x.s.v k → w10.heap.size ≤ k ∧ k < wg.heap.size ∧ (Value.slice va (ws.length + 1) vc).ownBlock ≠ some k := by
                intro x hx k hk
                rcases List.mem_append.1 hx with hx | hx
                · obtain ⟨q1, q2, q3⟩ := HVx6.out x hx k hk
                  refine ⟨q1, by omega, fun e => ?_⟩
                  rcases hob with e2 | e2
                  · rw [e2] at e; exact q3 e
                  · rw [e2] at e; cases e; omega
                · obtain rfl := List.mem_singleton.1 hx
                  obtain ⟨_, _, _, e2⟩ := hk
                  simp only [Sl.v, Value.slice.injEq, Option.some.injEq, Addr.mk.injEq] at e2
                  obtain ⟨⟨rfl, _⟩, _⟩ := e2
                  refine ⟨by omega, by omega, fun e => ?_⟩
                  rcases hob with e3 | e3
                  · rw [e3] at e; have := hlo _ e; omega
                  · rw [e3] at e; have e4 : wd.heap.size = w0.heap.size := Option.some.inj e; omega
              have hklg : Kept (fun k => k = bs ∨ k = b5) w10 wg := ((HKl6.out.trans hk0d (fun _ _ h => h.elim)).trans hkf (fun k hk h => by have := HOw.out k h; omega)).trans hks (fun k hk h => .inr h)
              have HRowg := hide hrowg
              have HOwg := hide howg
              have HSrcg := hide hsrcg
              have HVxg := hide hvxg
              have HKlg := hide hklg
              have HXg : Hid (RefAt wg bs S6 E6) := hide hxg
              have H5g : Hid (Blk wg b5 [.int .i64 3, .int .i64 t1, .int .i64 n1, .slice va (ws.length + 1) vc] 24) := hide h5g
              clear hrowg howg hsrcg hvxg hklg hxg h5g hlo hz0 hzc hzA hzf hzg hgc hb10 h510 h610 hrow hkf hob hl' hne5 hnes hSe hSd hSc hS0 hks hwg hk0d hwd hr hbA hkA hct hsc hkc hkw hheap
              clear H5 HX HRow H56 HX6 HRow6 HSrc6 HVx6 HKf6 HWs6 HKl6 HB26
              have hx0 : wg.cell? ⟨bs, 0, none⟩ = some (.string (strN S6)) := Blk.cell HXg.out 0
              go_wp2_with (with_reducible refine stop_slice 9 ?_)
              refine hide ?_
              refine wpList_run rfl (r_lo9 (B := S6) 64 H64.out rfl rfl) ?_
              clear hx0
              go_wp2_with (with_reducible refine stop_store 9 ?_)
              refine hide ?_
              refine aw_store1 (v := .string (strN (S6.drop 64))) (off := 0) Hi9.out Hs9.out rfl rfl rfl rfl HXg.out (by simp) ?_
              intro wh hbh hkh hzh
              have HRel : Hid (RGI w10 bs b5 t1 n1 nN S4 E4 B.length wh (i + 1) (S6.drop 64) E6 ⟨va, ws.length + 1, vc⟩ (ws ++ [⟨kq, ⟨some ⟨w0.heap.size, 0, none⟩, 64, ct⟩, S6.take 64⟩])) := hide (by
                refine ⟨hbh, hkh.blk H5g.out (fun h => Hbs5.out h.symm), HRowg.out.kept hkh (fun k hk e => (HOwg.out k hk).2 e), fun x hx => (HSrcg.out x hx).keptX hkh (fun _ k hk e => ?_), fun k hk => (HOwg.out k hk).1, fun x hx k hk => ?_, ?_, HKlg.out.trans hkh (fun k hk h => .inl h), fun x hx => HSS6.out.1 x (List.mem_of_mem_drop hx), ?_⟩
                · have := (HVxg.out x hx k hk).1; have := Blk.lt HX10.out; omega
                · obtain ⟨q1, q2, q3⟩ := HVxg.out x hx k hk
                  exact ⟨q1, by omega, q3⟩
                · have h := HScN.out
                  rw [List.map_append] at h ⊢
                  exact h
                · have := HLS6.out; have := HLS.out; have := H64.out
                  rw [List.length_drop, List.length_append, List.length_singleton]
                  omega)
              clear hbh hkh hzh HRowg HOwg HSrcg HVxg HKlg HXg H5g HScN HLS6
              go_wp2
              go_roundw
              case rel => exact ⟨i + 1, S6.drop 64, E6, ⟨va, ws.length + 1, vc⟩, _, by simp, by omega, HRel⟩
              case measure => simp [intOf]; omega
          · have HGD : Hid (GD B ⟨3, t1, n1, ws.map Wv.wr⟩ S5 E5) := hide (by
              have h := HRD.out
              rw [HSc.out, scanWs_err hE] at h
              simp only [List.append_nil] at h
              exact gd_of h)
            have HNo := hide (HGD.out.err hE)
            have H5z := H5
            have HB2z := HB2
            have HKz := HKf
            clear HVx HSc
            go_wp2_with (first
              | ((with_reducible refine aw_store (x := .tmp 2) (M := [.int .i64 0, .int .i64 0, .int .i64 0, .slice none 0 0]) Try.agg24 rfl rfl rfl (by simp [Value.oneCell']) HB2z.out (by simp) ?_); intro wy hby hky hzy; rw [put_whole _ _ (by simp)] at hby; clear hzy)
              | fail)
            refine bodyPost_ret (results_cell2 (t := 2) (u := 3) (ty := 24) rfl Try.agg24 rfl hby rfl) rfl ?_
            exact ⟨rv0, false, rfl, ⟨WsAt.nil _, .inr ⟨HNo.out, rfl, rfl⟩⟩, HKz.out.trans hky (fun i hi h => by have := Hb2w.out; omega)⟩
        · obtain rfl : nN = i := by omega
          have HGD : Hid (GD B ⟨3, t1, n1, ws.map Wv.wr⟩ S5 E5) := hide (by
            have h := HRD.out
            rw [HSc.out, Nat.sub_self, scanWs] at h
            simp only [List.append_nil] at h
            exact gd_of h)
          have HWs := HWs0
          have HWl := HLen
          clear HVx HSc hx1
          have c5_0 : wr.cell? ⟨b5, 0, none⟩ = some (.int .i64 3) := H5.out.cell 0
          have c5_1 : wr.cell? ⟨b5, 1, none⟩ = some (.int .i64 t1) := H5.out.cell 1
          have c5_2 : wr.cell? ⟨b5, 2, none⟩ = some (.int .i64 n1) := H5.out.cell 2
          have c5_3 : wr.cell? ⟨b5, 3, none⟩ = some (.slice sa sn sc) := H5.out.cell 3
          have cx1 : wr.cell? ⟨bs, 1, none⟩ = some (.int .i64 E5) := Blk.cell HX.out 1
          have cx0 : wr.cell? ⟨bs, 0, none⟩ = some (.string (strN S5)) := Blk.cell HX.out 0
          by_cases hE0 : E5 = 0
          · have HGD0 : Hid (GD B ⟨3, t1, n1, ws.map Wv.wr⟩ S5 0) := hide (by have h := HGD.out; rw [hE0] at h; exact h)
            by_cases hS0 : S5.length = 0
            · have hsd : strN S5 = ⟨#[]⟩ := by rw [List.eq_nil_of_length_eq_zero hS0]; rfl
              have HSl := hide hS0
              rw [hE0] at cx1
              rw [hsd] at cx0
              clear hS0 hsd
              obtain ⟨rb, hrb⟩ : ∃ b, b = rightR ⟨3, t1, n1, ws.map Wv.wr⟩ := ⟨_, rfl⟩
              have HRB := hide hrb
              have HRC := hide (rrightP_at wr 3 t1 n1 sa sn sc ws HWs.out (by have := HWl.out; omega) rb hrb.symm)
              clear hrb hE0
              go_wp2_with fail
              refine HRC.out.mono ?_
              rintro e wz ⟨rfl, hkz⟩
              have H5z := hide (hkz.blk H5.out (fun h => h))
              have HB2z := hide (hkz.blk HB2.out (fun h => h))
              have HKz := hide (HKf.out.trans hkz (fun _ _ h => h))
              have HWz := hide (HWs.out.kept hkz)
              clear c5_0 c5_1 c5_2 c5_3 cx0 cx1 hkz
              cases rb with
              | true =>
                have HY : Hid (getR B = some (Rv.rc ⟨3, t1, n1, ⟨sa, sn, sc⟩, ws⟩)) := hide (HGD0.out.yes HSl.out HRB.out.symm)
                go_wp2_with (first
                  | ((with_reducible refine aw_load (t := 24) (M := [.int .i64 3, .int .i64 t1, .int .i64 n1, .slice sa sn sc]) Try.agg24 rfl H5z.out (by simp) (by simp) ?_))
                  | ((with_reducible refine aw_store (x := .tmp 2) (M := [.int .i64 3, .int .i64 t1, .int .i64 n1, .slice sa sn sc]) Try.agg24 rfl rfl rfl (by simp [Value.oneCell']) HB2z.out (by simp) ?_); intro wy hby hky hzy; rw [put_whole _ _ (by simp)] at hby; clear hzy)
                  | fail)
                refine bodyPost_ret (results_cell2 (t := 2) (u := 3) (ty := 24) rfl Try.agg24 rfl hby rfl) rfl ?_
                refine ⟨⟨3, t1, n1, ⟨sa, sn, sc⟩, ws⟩, true, rfl, ⟨HWz.out.keptB2 HB2z.out hky HB2n.out, .inl ⟨HY.out, rfl⟩⟩, HKz.out.trans hky (fun i hi h => by have := Hb2w.out; omega)⟩
              | false =>
                have HNo := hide (HGD0.out.wrong HRB.out.symm)
                go_wp2_with (first
                  | ((with_reducible refine aw_store (x := .tmp 2) (M := [.int .i64 0, .int .i64 0, .int .i64 0, .slice none 0 0]) Try.agg24 rfl rfl rfl (by simp [Value.oneCell']) HB2z.out (by simp) ?_); intro wy hby hky hzy; rw [put_whole _ _ (by simp)] at hby; clear hzy)
                  | fail)
                refine bodyPost_ret (results_cell2 (t := 2) (u := 3) (ty := 24) rfl Try.agg24 rfl hby rfl) rfl ?_
                exact ⟨rv0, false, rfl, ⟨WsAt.nil _, .inr ⟨HNo.out, rfl, rfl⟩⟩, HKz.out.trans hky (fun i hi h => by have := Hb2w.out; omega)⟩
            · have hsd : ¬ strN S5 = ⟨#[]⟩ := fun h => by
                have h2 := congrArg ByteArray.size h
                rw [strN_size] at h2
                exact hS0 h2
              have HNo := hide (HGD0.out.left hS0)
              rw [hE0] at cx1
              have hS0' := hS0
              clear hS0 hE0
              have hsd2 : ¬ (strN S5).toList = [] := fun h => by
                rw [ByteArray.toList_eq, strN_data] at h
                simp at h
                exact hS0' (by rw [h]; rfl)
              clear hS0'
              generalize strN S5 = sd at *
              have H5z := H5
              have HB2z := HB2
              have HKz := HKf
              go_wp2_with (first
                | ((with_reducible refine aw_store (x := .tmp 2) (M := [.int .i64 0, .int .i64 0, .int .i64 0, .slice none 0 0]) Try.agg24 rfl rfl rfl (by simp [Value.oneCell']) HB2z.out (by simp) ?_); intro wy hby hky hzy; rw [put_whole _ _ (by simp)] at hby; clear hzy)
                | fail)
              refine bodyPost_ret (results_cell2 (t := 2) (u := 3) (ty := 24) rfl Try.agg24 rfl hby rfl) rfl ?_
              exact ⟨rv0, false, rfl, ⟨WsAt.nil _, .inr ⟨HNo.out, rfl, rfl⟩⟩, HKz.out.trans hky (fun i hi h => by have := Hb2w.out; omega)⟩
          · have HNo := hide (HGD.out.err hE0)
            have H5z := H5
            have HB2z := HB2
            have HKz := HKf
            go_wp2_with (first
              | ((with_reducible refine aw_store (x := .tmp 2) (M := [.int .i64 0, .int .i64 0, .int .i64 0, .slice none 0 0]) Try.agg24 rfl rfl rfl (by simp [Value.oneCell']) HB2z.out (by simp) ?_); intro wy hby hky hzy; rw [put_whole _ _ (by simp)] at hby; clear hzy)
              | fail)
            refine bodyPost_ret (results_cell2 (t := 2) (u := 3) (ty := 24) rfl Try.agg24 rfl hby rfl) rfl ?_
            exact ⟨rv0, false, rfl, ⟨WsAt.nil _, .inr ⟨HNo.out, rfl, rfl⟩⟩, HKz.out.trans hky (fun i hi h => by have := Hb2w.out; omega)⟩
    · have HB2n : Hid (WsOff (.slice none 0 0) [] b2) := hide (WsOff.nil b2)
      have HWs : Hid (WsAt w9 (.slice none 0 0) []) := hide (WsAt.nil _)
      have HWl : Hid (([] : List Wv).length ≤ 100000) := hide (by decide)
      have HGD : Hid (GD B ⟨k1, t1, n1, ([] : List Wv).map Wv.wr⟩ S3 E3) := hide (by
        refine gd_of ?_
        unfold readR
        rw [← Hk1.out]
        simp only []
        rw [if_neg hk2, ← Ht1.out]
        simp only []
        rw [← Hn1.out, if_neg hk3]
        rfl)
      clear c0
      have c5_0 : w9.cell? ⟨b5, 0, none⟩ = some (.int .i64 k1) := H5.out.cell 0
      have c5_1 : w9.cell? ⟨b5, 1, none⟩ = some (.int .i64 t1) := H5.out.cell 1
      have c5_2 : w9.cell? ⟨b5, 2, none⟩ = some (.int .i64 n1) := H5.out.cell 2
      have c5_3 : w9.cell? ⟨b5, 3, none⟩ = some (.slice none 0 0) := H5.out.cell 3
      have cx1 : w9.cell? ⟨bs, 1, none⟩ = some (.int .i64 E3) := Blk.cell HX.out 1
      have cx0 : w9.cell? ⟨bs, 0, none⟩ = some (.string (strN S3)) := Blk.cell HX.out 0
      by_cases hE0 : E3 = 0
      · have HGD0 : Hid (GD B ⟨k1, t1, n1, ([] : List Wv).map Wv.wr⟩ S3 0) := hide (by have h := HGD.out; rw [hE0] at h; exact h)
        by_cases hS0 : S3.length = 0
        · have hsd : strN S3 = ⟨#[]⟩ := by rw [List.eq_nil_of_length_eq_zero hS0]; rfl
          have HSl := hide hS0
          rw [hE0] at cx1
          rw [hsd] at cx0
          clear hS0 hsd
          obtain ⟨rb, hrb⟩ : ∃ b, b = rightR ⟨k1, t1, n1, ([] : List Wv).map Wv.wr⟩ := ⟨_, rfl⟩
          have HRB := hide hrb
          have HRC := hide (rrightP_at w9 k1 t1 n1 none 0 0 ([] : List Wv) HWs.out (by have := HWl.out; omega) rb hrb.symm)
          clear hrb hE0
          go_wp2_with fail
          refine HRC.out.mono ?_
          rintro e wz ⟨rfl, hkz⟩
          have H5z := hide (hkz.blk H5.out (fun h => h))
          have HB2z := hide (hkz.blk HB2.out (fun h => h))
          have HKz := hide (HKf.out.trans hkz (fun _ _ h => h))
          have HWz := hide (HWs.out.kept hkz)
          clear c5_0 c5_1 c5_2 c5_3 cx0 cx1 hkz
          cases rb with
          | true =>
            have HY : Hid (getR B = some (Rv.rc ⟨k1, t1, n1, ⟨none, 0, 0⟩, ([] : List Wv)⟩)) := hide (HGD0.out.yes HSl.out HRB.out.symm)
            go_wp2_with (first
              | ((with_reducible refine aw_load (t := 24) (M := [.int .i64 k1, .int .i64 t1, .int .i64 n1, .slice none 0 0]) Try.agg24 rfl H5z.out (by simp) (by simp) ?_))
              | ((with_reducible refine aw_store (x := .tmp 2) (M := [.int .i64 k1, .int .i64 t1, .int .i64 n1, .slice none 0 0]) Try.agg24 rfl rfl rfl (by simp [Value.oneCell']) HB2z.out (by simp) ?_); intro wy hby hky hzy; rw [put_whole _ _ (by simp)] at hby; clear hzy)
              | fail)
            refine bodyPost_ret (results_cell2 (t := 2) (u := 3) (ty := 24) rfl Try.agg24 rfl hby rfl) rfl ?_
            refine ⟨⟨k1, t1, n1, ⟨none, 0, 0⟩, ([] : List Wv)⟩, true, rfl, ⟨HWz.out.keptB2 HB2z.out hky HB2n.out, .inl ⟨HY.out, rfl⟩⟩, HKz.out.trans hky (fun i hi h => by have := Hb2w.out; omega)⟩
          | false =>
            have HNo := hide (HGD0.out.wrong HRB.out.symm)
            go_wp2_with (first
              | ((with_reducible refine aw_store (x := .tmp 2) (M := [.int .i64 0, .int .i64 0, .int .i64 0, .slice none 0 0]) Try.agg24 rfl rfl rfl (by simp [Value.oneCell']) HB2z.out (by simp) ?_); intro wy hby hky hzy; rw [put_whole _ _ (by simp)] at hby; clear hzy)
              | fail)
            refine bodyPost_ret (results_cell2 (t := 2) (u := 3) (ty := 24) rfl Try.agg24 rfl hby rfl) rfl ?_
            exact ⟨rv0, false, rfl, ⟨WsAt.nil _, .inr ⟨HNo.out, rfl, rfl⟩⟩, HKz.out.trans hky (fun i hi h => by have := Hb2w.out; omega)⟩
        · have hsd : ¬ strN S3 = ⟨#[]⟩ := fun h => by
            have h2 := congrArg ByteArray.size h
            rw [strN_size] at h2
            exact hS0 h2
          have HNo := hide (HGD0.out.left hS0)
          rw [hE0] at cx1
          have hS0' := hS0
          clear hS0 hE0
          have hsd2 : ¬ (strN S3).toList = [] := fun h => by
            rw [ByteArray.toList_eq, strN_data] at h
            simp at h
            exact hS0' (by rw [h]; rfl)
          clear hS0'
          generalize strN S3 = sd at *
          have H5z := H5
          have HB2z := HB2
          have HKz := HKf
          go_wp2_with (first
            | ((with_reducible refine aw_store (x := .tmp 2) (M := [.int .i64 0, .int .i64 0, .int .i64 0, .slice none 0 0]) Try.agg24 rfl rfl rfl (by simp [Value.oneCell']) HB2z.out (by simp) ?_); intro wy hby hky hzy; rw [put_whole _ _ (by simp)] at hby; clear hzy)
            | fail)
          refine bodyPost_ret (results_cell2 (t := 2) (u := 3) (ty := 24) rfl Try.agg24 rfl hby rfl) rfl ?_
          exact ⟨rv0, false, rfl, ⟨WsAt.nil _, .inr ⟨HNo.out, rfl, rfl⟩⟩, HKz.out.trans hky (fun i hi h => by have := Hb2w.out; omega)⟩
      · have HNo := hide (HGD.out.err hE0)
        have H5z := H5
        have HB2z := HB2
        have HKz := HKf
        go_wp2_with (first
          | ((with_reducible refine aw_store (x := .tmp 2) (M := [.int .i64 0, .int .i64 0, .int .i64 0, .slice none 0 0]) Try.agg24 rfl rfl rfl (by simp [Value.oneCell']) HB2z.out (by simp) ?_); intro wy hby hky hzy; rw [put_whole _ _ (by simp)] at hby; clear hzy)
          | fail)
        refine bodyPost_ret (results_cell2 (t := 2) (u := 3) (ty := 24) rfl Try.agg24 rfl hby rfl) rfl ?_
        exact ⟨rv0, false, rfl, ⟨WsAt.nil _, .inr ⟨HNo.out, rfl, rfl⟩⟩, HKz.out.trans hky (fun i hi h => by have := Hb2w.out; omega)⟩
end Go.Proofs.Ytcdlgaknpmlfeaa
