/-
  ControlTells answers true for every control and every list of bytes, and its arguments read afterwards as before. Conditions: none.
  Ahead of it the walk through the law.
-/
import Derived.Test.YtapoagpkjngjpaaCtRR
import Derived.Test.YtapoagpkjngjpaaCtDv
namespace Go.Proofs.Ytapoagpkjngjpaa
open Go.RowKit Go.Shelf
set_option linter.unusedSimpArgs false
set_option linter.unusedVariables false
set_option maxRecDepth 100000

section
variable {ρ : Operand → Value} {w : World} {dst : Option Tmp} {ty : TypeId} {pos : String} {aft : Array Edge} {gd : Option (Nat × Bool)} {x y : Operand}
theorem r_ld23v {b : Nat} {c : Ct} (hx : ρ x = .pointer (some ⟨b, 0, none⟩)) (hb : Blk w b (ctV c) 23) : (execOp ρ ⟨dst, .load 23 x, ty, pos, aft, gd⟩).run Try.prog w = .ok (.value (.agg (ctV c).toArray)) w := r_ld23 hx hb
theorem r_cteq4 {p : Bool} (hx : ρ x = .bool p) (hy : ρ y = .bool p) : (execOp ρ ⟨dst, .binOp .eql 4 x y 4, ty, pos, aft, gd⟩).run Try.prog w = .ok (.value (.bool true)) w := by
  have h := r_eql4 (dst := dst) (ty := ty) (pos := pos) (aft := aft) (gd := gd) (w := w) hx hy
  rw [h]; cases p <;> rfl
theorem r_ctself23 {c : Ct} (hx : ρ x = .agg (ctV c).toArray) (hy : ρ y = .agg (ctV c).toArray) : (execOp ρ ⟨dst, .binOp .eql 23 x y 23, ty, pos, aft, gd⟩).run Try.prog w = .ok (.value (.bool true)) w := by
  have h := r_eq23 (dst := dst) (ty := ty) (pos := pos) (aft := aft) (gd := gd) (w := w) hx hy
  rw [h, eqC_self]
theorem r_ctself3 {i : Int} (hx : ρ x = .int .i64 i) (hy : ρ y = .int .i64 i) : (execOp ρ ⟨dst, .binOp .eql 3 x y 3, ty, pos, aft, gd⟩).run Try.prog w = .ok (.value (.bool true)) w := by
  have h := r_eq3 (dst := dst) (ty := ty) (pos := pos) (aft := aft) (gd := gd) (w := w) hx hy
  rw [h]; simp
theorem r_ctself9 {A : List Nat} (hx : ρ x = .string (strN A)) (hy : ρ y = .string (strN A)) : (execOp ρ ⟨dst, .binOp .eql 9 x y 9, ty, pos, aft, gd⟩).run Try.prog w = .ok (.value (.bool true)) w := by
  have h := r_eql9 (dst := dst) (ty := ty) (pos := pos) (aft := aft) (gd := gd) (w := w) hx hy
  rw [h]; simp
end
theorem ct_src {w : World} {g : Nat} {c : Ct} (h : Blk w g (BV (putC c)) 5) : Src w (.slice (some ⟨g, 0, none⟩) 64 64) (putC c) := by
  have := h.src (B := putC c) (cap := 64) (by rw [List.take_of_length_le (by rw [BV_length, putC_length]; exact Nat.le_refl _)]) (putC_lt _) (by rw [putC_length]; exact Nat.le_refl _)
  rw [putC_length] at this
  exact this
set_option maxHeartbeats 16000000 in
theorem cttells_at (w : World) (c : Ct) (v : Value) (b : List Nat) (hb : Src w v b) (hl : b.length ≤ 9223372036854775807) :
    Calls Try.prog 3 #[ctAgg c, v] w fun e w' => e = .returned (.bool true) ∧ Kept (fun _ => False) w w' := by
  obtain ⟨i23, hi23, hz23, hs23, hb23⟩ := info_parts Try.info23
  have Hi23 := hide hi23
  have Hz23 := hide hz23
  have HBl := hide hb.lt
  have HB0 := hide hb
  obtain ⟨bo, cap, rfl⟩ := hb.slice
  obtain ⟨bl, hbl⟩ : ∃ n, n = b.length := ⟨_, rfl⟩
  have Hbl := hide hbl
  rw [← hbl] at HB0 hl ⊢
  clear hi23 hz23 hs23 hb23 hb hbl
  unfold ctAgg
  go_enter Try.func3, Try.ntmps3
  go_wp2_with (first
    | ((with_reducible refine aw_box (t := 23) (v := .agg #[.int .i64 c.gen, .int .i64 c.ep, .int .i64 c.ar, .int .i64 c.tl, .int .i64 c.nm, .int .i64 c.re, .int .i64 c.lo]) rfl ?_); intro w1 hb1 hk1 hz1; clear hz1)
    | fail)
  refine (ctfirst_at w1).mono ?_
  rintro e w3 ⟨rfl, hk3⟩
  obtain ⟨bc, hbc⟩ : ∃ x, x = w.heap.size := ⟨_, rfl⟩
  rw [← hbc] at hb1 ⊢
  have HCb : Hid (Blk w3 bc (ctV c) 23) := hide (hk3.blk hb1 (fun h => h))
  have HK := hide (hk1.trans hk3 (fun _ _ h => h))
  have HB := hide ((HB0.out.kept hk1).kept hk3)
  clear hb1 hk1 hk3 hbc HB0
  by_cases hbig : 300 < bl
  · have hbi : (300 : Int) < bl := by omega
    go_wp2
    go_ret
    exact ⟨rfl, HK.out⟩
  have hbi : ¬ (300 : Int) < bl := by omega
  obtain ⟨z, hz⟩ : ∃ x, x = (getC b).1 := ⟨_, rfl⟩
  obtain ⟨er, her⟩ : ∃ x, x = (getC b).2 := ⟨_, rfl⟩
  have HGt : Hid (∀ w, Src w (.slice bo bl cap) b → Calls Try.prog 9 #[.slice bo bl cap] w fun e w' => e = .returned (.tuple #[ctAgg z, .int .i64 er]) ∧ Kept (fun _ => False) w w') := hide (fun w h => by rw [hz, her]; exact ctget_at w _ b h (by rw [← Hbl.out]; omega))
  have HRg : Hid (∀ w, Src w (.slice bo bl cap) b → Calls Try.prog 10 #[.slice bo bl cap] w fun e w' => e = .returned (.tuple #[ctAgg z, .int .i64 er]) ∧ Kept (fun _ => False) w w') := hide (fun w h => by rw [hz, her, getC_ref HBl.out]; exact ctrget_at w _ b h (by rw [← Hbl.out]; omega))
  have HZ1 := hide (ctV_one z)
  clear hbig hl hz her
  cases hr : rightC c with
  | true =>
    have HRC := hide hr
    clear hr
    go_wp2_with (first
      | (with_reducible refine aw_load (x := .tmp 2) (M := ctV c) Try.agg23 rfl HCb.out (by simp [ctV]) (by simp [ctV]) ?_)
      | fail)
    refine (ctrright_at w3 c true HRC.out).mono ?_
    rintro e w4 ⟨rfl, hk4⟩
    have HCb4 := hide (hk4.blk HCb.out (fun h => h))
    have HK4 := hide (HK.out.trans hk4 (fun _ _ h => h))
    have HB4 := hide (HB.out.kept hk4)
    clear hk4 HCb HK HB
    go_wp2_with (first
      | (with_reducible refine aw_load (x := .tmp 2) (M := ctV c) Try.agg23 rfl HCb4.out (by simp [ctV]) (by simp [ctV]) ?_)
      | fail)
    refine (ctrput_at w4 c HRC.out).mono ?_
    rintro e w5 ⟨rfl, hk5⟩
    have HCb5 := hide (hk5.blk HCb4.out (fun h => h))
    have HK5 := hide (HK4.out.trans hk5 (fun _ _ h => h))
    have HB5 := hide (HB4.out.kept hk5)
    clear hk5 HCb4 HK4 HB4
    go_wp2_with fail
    refine (HGt.out w5 HB5.out).mono ?_
    rintro e w6 ⟨rfl, hk6⟩
    have HCb6 := hide (hk6.blk HCb5.out (fun h => h))
    have HK6 := hide (HK5.out.trans hk6 (fun _ _ h => h))
    have HB6 := hide (HB5.out.kept hk6)
    clear hk6 HCb5 HK5 HB5
    unfold ctAgg
    go_wp2_with (first
      | ((with_reducible refine aw_alloc (dst := some 6) Hi23.out Hz23.out ?_); intro w7 hb_ hk1_ hz_; have Yz_w7 := hide hz_; clear hz_)
      | ((with_reducible refine aw_store (x := .tmp 6) (M := ctV z) Try.agg23 rfl rfl rfl HZ1.out hb_ (by simp [Value.cells]) ?_); intro w8 hw_ hk2_ hz2_; have Yz_w8 := hide hz2_; clear hz2_; rw [put_whole _ _ (by simp [Value.cells, ctV])] at hw_; have hkx : Kept (fun _ => False) w6 w8 := hk1_.trans hk2_ (fun i hi h => by omega); have HX8 := hide hw_; have HCb8 := hide (hkx.blk HCb6.out (fun h => h)); have HK8 := hide (HK6.out.trans hkx (fun _ _ h => h)); have HB8 := hide (HB6.out.kept hkx); clear hb_ hk1_ hk2_ hw_ hkx)
      | fail)
    obtain ⟨bx, hbx⟩ : ∃ x, x = w6.heap.size := ⟨_, rfl⟩
    rw [← hbx] at HX8 ⊢
    clear hbx HCb6 HK6 HB6
    refine (HRg.out w8 HB8.out).mono ?_
    rintro e w9 ⟨rfl, hk9⟩
    have HX9 := hide (hk9.blk HX8.out (fun h => h))
    have HCb9 := hide (hk9.blk HCb8.out (fun h => h))
    have HK9 := hide (HK8.out.trans hk9 (fun _ _ h => h))
    clear hk9 HX8 HCb8 HK8 HB8
    unfold ctAgg
    go_wp2_with (first
      | ((with_reducible refine aw_alloc (dst := some 8) Hi23.out Hz23.out ?_); intro w10 hb_ hk1_ hz_; have Yz_w10 := hide hz_; clear hz_)
      | ((with_reducible refine aw_store (x := .tmp 8) (M := ctV z) Try.agg23 rfl rfl rfl HZ1.out hb_ (by simp [Value.cells]) ?_); intro w11 hw_ hk2_ hz2_; have Yz_w11 := hide hz2_; clear hz2_; rw [put_whole _ _ (by simp [Value.cells, ctV])] at hw_; have hkx : Kept (fun _ => False) w9 w11 := hk1_.trans hk2_ (fun i hi h => by omega); have HYb := hide hw_; have HXb := hide (hkx.blk HX9.out (fun h => h)); have HCb := hide (hkx.blk HCb9.out (fun h => h)); have HK := hide (HK9.out.trans hkx (fun _ _ h => h)); clear hb_ hk1_ hk2_ hw_ hkx)
      | fail)
    obtain ⟨by_, hby⟩ : ∃ x, x = w9.heap.size := ⟨_, rfl⟩
    rw [← hby] at HYb ⊢
    clear hby HX9 HCb9 HK9
    refine hold_frame (p := fun fr => Code.wp Try.prog _ _ fr _) ?_
    intro fr hfr
    have e2 : fr.eval (.tmp 2) = .pointer (some ⟨bc, 0, none⟩) := by rw [hfr.out]; rfl
    have e5 : fr.eval (.tmp 5) = .string (strN (putC c)) := by rw [hfr.out]; rfl
    have e6 : fr.eval (.tmp 6) = .pointer (some ⟨bx, 0, none⟩) := by rw [hfr.out]; rfl
    have e7 : fr.eval (.tmp 7) = .int .i64 er := by rw [hfr.out]; rfl
    have e8 : fr.eval (.tmp 8) = .pointer (some ⟨by_, 0, none⟩) := by rw [hfr.out]; rfl
    have e9 : fr.eval (.tmp 9) = .int .i64 er := by rw [hfr.out]; rfl
    have hts : fr.tmps.size = 51 := by rw [hfr.out]; rfl
    refine region_S0 99 Try.mixed ?_
    intro w0 hkw hheap
    have HC0 := hide (hkw.blk HCb.out (fun h => h))
    have HX0 := hide (hkw.blk HXb.out (fun h => h))
    have HY0 := hide (hkw.blk HYb.out (fun h => h))
    have hS0 : Kept (fun _ => False) w0 w0 := Kept.refl (fun _ => False) w0
    refine ⟨Kept (fun _ => False) w0, ?_⟩
    refine tkS 0 29 (v := ctAgg c) hS0 rfl rfl (by kernel_rfl) (by kernel_rfl) (by kernel_rfl) (by kernel_rfl) (wanted_none rfl) (fun _ _ _ h => h) (fun U hU => r_ld23 (b := bc) (by simp [eval_put_ne, eval_put_eq, size_put, hts, e2]) ((hS0.trans hU (fun _ _ h => h)).blk HC0.out (fun h => h))) ?_
    refine tkS 2 31 (v := ctAgg c) hS0 rfl rfl (by kernel_rfl) (by kernel_rfl) (by kernel_rfl) (by kernel_rfl) (wanted_none rfl) (fun _ _ _ h => h) (fun U hU => r_ld23 (b := bc) (by simp [eval_put_ne, eval_put_eq, size_put, hts, e2]) ((hS0.trans hU (fun _ _ h => h)).blk HC0.out (fun h => h))) ?_
    refine oneCS 1 30 (by kernel_rfl) rfl rfl (wanted_none rfl) (r_call1 Try.func11 (by kernel_rfl) rfl rfl (by simp [eval_put_ne, eval_put_eq, size_put, hts])) (ctright_at w0 c true HRC.out) ?_
    rintro e v1 ⟨rfl, k1⟩
    refine ⟨_, rfl, k1, ?_⟩
    refine oneCS 3 32 (by kernel_rfl) rfl rfl (wanted_none rfl) (r_call1 Try.func7 (by kernel_rfl) rfl rfl (by simp [eval_put_ne, eval_put_eq, size_put, hts])) (ctrright_at v1 c true HRC.out) ?_
    rintro e v2 ⟨rfl, k2⟩
    have kk2 := k1.trans k2 (fun _ _ h => h)
    refine ⟨_, rfl, kk2, ?_⟩
    refine tkS 4 33 (v := .bool true) kk2 rfl rfl (by kernel_rfl) (by kernel_rfl) (by kernel_rfl) (by kernel_rfl) (wanted_none rfl) (fun _ _ _ h => h) (fun U hU => r_cteq4 (p := true) (by simp [eval_put_ne, eval_put_eq, size_put, hts]) (by simp [eval_put_ne, eval_put_eq, size_put, hts])) ?_
    refine tkS 5 34 (v := .bool true) kk2 rfl rfl (by kernel_rfl) (by kernel_rfl) (by kernel_rfl) (by kernel_rfl) (wanted_none rfl) (fun _ _ _ h => h) (fun U hU => r_move (by simp [eval_put_ne, eval_put_eq, size_put, hts])) ?_
    refine tkS 6 35 (v := ctAgg c) kk2 rfl rfl (by kernel_rfl) (by kernel_rfl) (by kernel_rfl) (by kernel_rfl) (wanted_some (j := 5) (d := 34) (bb := true) rfl rfl rfl (by simp [eval_put_ne, eval_put_eq, size_put, hts]) (by simp [size_put, hts])) (fun _ _ _ h => h) (fun U hU => r_ld23 (b := bc) (by simp [eval_put_ne, eval_put_eq, size_put, hts, e2]) ((hS0.trans hU (fun _ _ h => h)).blk HC0.out (fun h => h))) ?_
    refine tkS 9 38 (v := .string (strN (putC c))) kk2 rfl rfl (by kernel_rfl) (by kernel_rfl) (by kernel_rfl) (by kernel_rfl) (wanted_some (j := 5) (d := 34) (bb := true) rfl rfl rfl (by simp [eval_put_ne, eval_put_eq, size_put, hts]) (by simp [size_put, hts])) (fun _ _ _ h => h) (fun U hU => r_move (by simp [eval_put_ne, eval_put_eq, size_put, hts, e5])) ?_
    refine oneCS 7 36 (by kernel_rfl) rfl rfl (wanted_some (j := 5) (d := 34) (bb := true) rfl rfl rfl (by simp [eval_put_ne, eval_put_eq, size_put, hts]) (by simp [size_put, hts])) (r_call1 Try.func12 (by kernel_rfl) rfl rfl (by simp [eval_put_ne, eval_put_eq, size_put, hts])) (ctput_at v2 c HRC.out) ?_
    rintro e v3 ⟨gp, rfl, hbp, hgp, k3⟩
    have kk3 := kk2.trans k3 (fun _ _ h => h)
    have hsp : Src v3 (.slice (some ⟨gp, 0, none⟩) 64 64) (putC c) := ct_src hbp
    refine ⟨_, rfl, kk3, ?_⟩
    refine raiseM (S' := Kept (fun _ => False) v3) (fun U hU => kk3.trans hU (fun _ _ h => h)) ?_
    have hs3 : (Kept (fun _ => False) v3) _ := Kept.refl _ _
    refine tkS 8 37 (v := .string (strN (putC c))) hs3 rfl rfl (by kernel_rfl) (by kernel_rfl) (by kernel_rfl) (by kernel_rfl) (wanted_some (j := 5) (d := 34) (bb := true) rfl rfl rfl (by simp [eval_put_ne, eval_put_eq, size_put, hts]) (by simp [size_put, hts])) (fun _ _ _ h => h) (fun U hU => r_strS (v := .slice (some ⟨gp, 0, none⟩) 64 64) (by simp [eval_put_ne, eval_put_eq, size_put, hts]) (hsp.kept hU)) ?_
    refine tkS 10 39 (v := .bool true) hs3 rfl rfl (by kernel_rfl) (by kernel_rfl) (by kernel_rfl) (by kernel_rfl) (wanted_some (j := 5) (d := 34) (bb := true) rfl rfl rfl (by simp [eval_put_ne, eval_put_eq, size_put, hts]) (by simp [size_put, hts])) (fun _ _ _ h => h) (fun U hU => r_ctself9 (A := putC c) (by simp [eval_put_ne, eval_put_eq, size_put, hts]) (by simp [eval_put_ne, eval_put_eq, size_put, hts])) ?_
    refine tkS 11 40 (v := .bool true) hs3 rfl rfl (by kernel_rfl) (by kernel_rfl) (by kernel_rfl) (by kernel_rfl) (wanted_none rfl) (fun _ _ _ h => h) (fun U hU => r_pick (by simp [eval_put_ne, eval_put_eq, size_put, hts]) (by simp [eval_put_ne, eval_put_eq, size_put, hts])) ?_
    refine tkS 12 41 (v := .bool true) hs3 rfl rfl (by kernel_rfl) (by kernel_rfl) (by kernel_rfl) (by kernel_rfl) (wanted_none rfl) (fun _ _ _ h => h) (fun U hU => r_move (by simp [eval_put_ne, eval_put_eq, size_put, hts])) ?_
    refine tkS 13 42 (v := .agg (ctV z).toArray) hs3 rfl rfl (by kernel_rfl) (by kernel_rfl) (by kernel_rfl) (by kernel_rfl) (wanted_some (j := 12) (d := 41) (bb := true) rfl rfl rfl (by simp [eval_put_ne, eval_put_eq, size_put, hts]) (by simp [size_put, hts])) (fun _ _ _ h => h) (fun U hU => r_ld23v (b := bx) (by simp [eval_put_ne, eval_put_eq, size_put, hts, e6]) ((kk3.trans hU (fun _ _ h => h)).blk HX0.out (fun h => h))) ?_
    refine tkS 14 43 (v := .agg (ctV z).toArray) hs3 rfl rfl (by kernel_rfl) (by kernel_rfl) (by kernel_rfl) (by kernel_rfl) (wanted_some (j := 12) (d := 41) (bb := true) rfl rfl rfl (by simp [eval_put_ne, eval_put_eq, size_put, hts]) (by simp [size_put, hts])) (fun _ _ _ h => h) (fun U hU => r_ld23v (b := by_) (by simp [eval_put_ne, eval_put_eq, size_put, hts, e8]) ((kk3.trans hU (fun _ _ h => h)).blk HY0.out (fun h => h))) ?_
    refine tkS 15 44 (v := .bool true) hs3 rfl rfl (by kernel_rfl) (by kernel_rfl) (by kernel_rfl) (by kernel_rfl) (wanted_some (j := 12) (d := 41) (bb := true) rfl rfl rfl (by simp [eval_put_ne, eval_put_eq, size_put, hts]) (by simp [size_put, hts])) (fun _ _ _ h => h) (fun U hU => r_ctself23 (c := z) (by simp [eval_put_ne, eval_put_eq, size_put, hts]) (by simp [eval_put_ne, eval_put_eq, size_put, hts])) ?_
    refine tkS 16 45 (v := .bool true) hs3 rfl rfl (by kernel_rfl) (by kernel_rfl) (by kernel_rfl) (by kernel_rfl) (wanted_none rfl) (fun _ _ _ h => h) (fun U hU => r_pick (by simp [eval_put_ne, eval_put_eq, size_put, hts]) (by simp [eval_put_ne, eval_put_eq, size_put, hts])) ?_
    refine tkS 17 46 (v := .bool true) hs3 rfl rfl (by kernel_rfl) (by kernel_rfl) (by kernel_rfl) (by kernel_rfl) (wanted_none rfl) (fun _ _ _ h => h) (fun U hU => r_move (by simp [eval_put_ne, eval_put_eq, size_put, hts])) ?_
    refine tkS 18 47 (v := .int .i64 er) hs3 rfl rfl (by kernel_rfl) (by kernel_rfl) (by kernel_rfl) (by kernel_rfl) (wanted_some (j := 17) (d := 46) (bb := true) rfl rfl rfl (by simp [eval_put_ne, eval_put_eq, size_put, hts]) (by simp [size_put, hts])) (fun _ _ _ h => h) (fun U hU => r_move (by simp [eval_put_ne, eval_put_eq, size_put, hts, e7])) ?_
    refine tkS 19 48 (v := .int .i64 er) hs3 rfl rfl (by kernel_rfl) (by kernel_rfl) (by kernel_rfl) (by kernel_rfl) (wanted_some (j := 17) (d := 46) (bb := true) rfl rfl rfl (by simp [eval_put_ne, eval_put_eq, size_put, hts]) (by simp [size_put, hts])) (fun _ _ _ h => h) (fun U hU => r_move (by simp [eval_put_ne, eval_put_eq, size_put, hts, e9])) ?_
    refine tkS 20 49 (v := .bool true) hs3 rfl rfl (by kernel_rfl) (by kernel_rfl) (by kernel_rfl) (by kernel_rfl) (wanted_some (j := 17) (d := 46) (bb := true) rfl rfl rfl (by simp [eval_put_ne, eval_put_eq, size_put, hts]) (by simp [size_put, hts])) (fun _ _ _ h => h) (fun U hU => r_ctself3 (i := er) (by simp [eval_put_ne, eval_put_eq, size_put, hts]) (by simp [eval_put_ne, eval_put_eq, size_put, hts])) ?_
    refine tkS 21 50 (v := .bool true) hs3 rfl rfl (by kernel_rfl) (by kernel_rfl) (by kernel_rfl) (by kernel_rfl) (wanted_none rfl) (fun _ _ _ h => h) (fun U hU => r_pick (by simp [eval_put_ne, eval_put_eq, size_put, hts]) (by simp [eval_put_ne, eval_put_eq, size_put, hts])) ?_
    refine tkS 22 4 (v := .bool true) hs3 rfl rfl (by kernel_rfl) (by kernel_rfl) (by kernel_rfl) (by kernel_rfl) (wanted_none rfl) (fun _ _ _ h => h) (fun U hU => r_assign (by simp [eval_put_ne, eval_put_eq, size_put, hts])) ?_
    refine doneS (by kernel_rfl) ?_
    rw [hfr.out]
    clear hfr e2 e5 e6 e7 e8 e9 hts
    simp only [put_lit, put_none, List.set_cons_succ, List.set_cons_zero]
    have HK9 := hide ((HK.out.trans hkw (fun _ _ h => h)).trans kk3 (fun _ _ h => h))
    clear hs3 kk3 kk2 k1 k2 k3 hS0 hkw hheap hsp
    go_wp2
    go_ret
    exact ⟨rfl, HK9.out⟩
  | false =>
    have HRC := hide hr
    clear hr
    go_wp2_with (first
      | (with_reducible refine aw_load (x := .tmp 2) (M := ctV c) Try.agg23 rfl HCb.out (by simp [ctV]) (by simp [ctV]) ?_)
      | fail)
    refine (ctrright_at w3 c false HRC.out).mono ?_
    rintro e w4 ⟨rfl, hk4⟩
    have HCb4 := hide (hk4.blk HCb.out (fun h => h))
    have HK4 := hide (HK.out.trans hk4 (fun _ _ h => h))
    have HB4 := hide (HB.out.kept hk4)
    clear hk4 HCb HK HB
    obtain ⟨w5, hw5⟩ : ∃ x, x = w4 := ⟨_, rfl⟩
    have hk5 : Kept (fun _ => False) w4 w5 := by rw [hw5]; exact Kept.refl _ _
    rw [show (⟨#[]⟩ : ByteArray) = strN [] from rfl]
    rw [← hw5]
    clear hw5
    have HCb5 := hide (hk5.blk HCb4.out (fun h => h))
    have HK5 := hide (HK4.out.trans hk5 (fun _ _ h => h))
    have HB5 := hide (HB4.out.kept hk5)
    clear hk5 HCb4 HK4 HB4
    go_wp2_with fail
    refine (HGt.out w5 HB5.out).mono ?_
    rintro e w6 ⟨rfl, hk6⟩
    have HCb6 := hide (hk6.blk HCb5.out (fun h => h))
    have HK6 := hide (HK5.out.trans hk6 (fun _ _ h => h))
    have HB6 := hide (HB5.out.kept hk6)
    clear hk6 HCb5 HK5 HB5
    unfold ctAgg
    go_wp2_with (first
      | ((with_reducible refine aw_alloc (dst := some 6) Hi23.out Hz23.out ?_); intro w7 hb_ hk1_ hz_; have Yz_w7 := hide hz_; clear hz_)
      | ((with_reducible refine aw_store (x := .tmp 6) (M := ctV z) Try.agg23 rfl rfl rfl HZ1.out hb_ (by simp [Value.cells]) ?_); intro w8 hw_ hk2_ hz2_; have Yz_w8 := hide hz2_; clear hz2_; rw [put_whole _ _ (by simp [Value.cells, ctV])] at hw_; have hkx : Kept (fun _ => False) w6 w8 := hk1_.trans hk2_ (fun i hi h => by omega); have HX8 := hide hw_; have HCb8 := hide (hkx.blk HCb6.out (fun h => h)); have HK8 := hide (HK6.out.trans hkx (fun _ _ h => h)); have HB8 := hide (HB6.out.kept hkx); clear hb_ hk1_ hk2_ hw_ hkx)
      | fail)
    obtain ⟨bx, hbx⟩ : ∃ x, x = w6.heap.size := ⟨_, rfl⟩
    rw [← hbx] at HX8 ⊢
    clear hbx HCb6 HK6 HB6
    refine (HRg.out w8 HB8.out).mono ?_
    rintro e w9 ⟨rfl, hk9⟩
    have HX9 := hide (hk9.blk HX8.out (fun h => h))
    have HCb9 := hide (hk9.blk HCb8.out (fun h => h))
    have HK9 := hide (HK8.out.trans hk9 (fun _ _ h => h))
    clear hk9 HX8 HCb8 HK8 HB8
    unfold ctAgg
    go_wp2_with (first
      | ((with_reducible refine aw_alloc (dst := some 8) Hi23.out Hz23.out ?_); intro w10 hb_ hk1_ hz_; have Yz_w10 := hide hz_; clear hz_)
      | ((with_reducible refine aw_store (x := .tmp 8) (M := ctV z) Try.agg23 rfl rfl rfl HZ1.out hb_ (by simp [Value.cells]) ?_); intro w11 hw_ hk2_ hz2_; have Yz_w11 := hide hz2_; clear hz2_; rw [put_whole _ _ (by simp [Value.cells, ctV])] at hw_; have hkx : Kept (fun _ => False) w9 w11 := hk1_.trans hk2_ (fun i hi h => by omega); have HYb := hide hw_; have HXb := hide (hkx.blk HX9.out (fun h => h)); have HCb := hide (hkx.blk HCb9.out (fun h => h)); have HK := hide (HK9.out.trans hkx (fun _ _ h => h)); clear hb_ hk1_ hk2_ hw_ hkx)
      | fail)
    obtain ⟨by_, hby⟩ : ∃ x, x = w9.heap.size := ⟨_, rfl⟩
    rw [← hby] at HYb ⊢
    clear hby HX9 HCb9 HK9
    refine hold_frame (p := fun fr => Code.wp Try.prog _ _ fr _) ?_
    intro fr hfr
    have e2 : fr.eval (.tmp 2) = .pointer (some ⟨bc, 0, none⟩) := by rw [hfr.out]; rfl
    have e5 : fr.eval (.tmp 5) = .string (strN []) := by rw [hfr.out]; rfl
    have e6 : fr.eval (.tmp 6) = .pointer (some ⟨bx, 0, none⟩) := by rw [hfr.out]; rfl
    have e7 : fr.eval (.tmp 7) = .int .i64 er := by rw [hfr.out]; rfl
    have e8 : fr.eval (.tmp 8) = .pointer (some ⟨by_, 0, none⟩) := by rw [hfr.out]; rfl
    have e9 : fr.eval (.tmp 9) = .int .i64 er := by rw [hfr.out]; rfl
    have hts : fr.tmps.size = 51 := by rw [hfr.out]; rfl
    refine region_S0 99 Try.mixed ?_
    intro w0 hkw hheap
    have HC0 := hide (hkw.blk HCb.out (fun h => h))
    have HX0 := hide (hkw.blk HXb.out (fun h => h))
    have HY0 := hide (hkw.blk HYb.out (fun h => h))
    have hS0 : Kept (fun _ => False) w0 w0 := Kept.refl (fun _ => False) w0
    refine ⟨Kept (fun _ => False) w0, ?_⟩
    refine tkS 0 29 (v := ctAgg c) hS0 rfl rfl (by kernel_rfl) (by kernel_rfl) (by kernel_rfl) (by kernel_rfl) (wanted_none rfl) (fun _ _ _ h => h) (fun U hU => r_ld23 (b := bc) (by simp [eval_put_ne, eval_put_eq, size_put, hts, e2]) ((hS0.trans hU (fun _ _ h => h)).blk HC0.out (fun h => h))) ?_
    refine tkS 2 31 (v := ctAgg c) hS0 rfl rfl (by kernel_rfl) (by kernel_rfl) (by kernel_rfl) (by kernel_rfl) (wanted_none rfl) (fun _ _ _ h => h) (fun U hU => r_ld23 (b := bc) (by simp [eval_put_ne, eval_put_eq, size_put, hts, e2]) ((hS0.trans hU (fun _ _ h => h)).blk HC0.out (fun h => h))) ?_
    refine oneCS 1 30 (by kernel_rfl) rfl rfl (wanted_none rfl) (r_call1 Try.func11 (by kernel_rfl) rfl rfl (by simp [eval_put_ne, eval_put_eq, size_put, hts])) (ctright_at w0 c false HRC.out) ?_
    rintro e v1 ⟨rfl, k1⟩
    refine ⟨_, rfl, k1, ?_⟩
    refine oneCS 3 32 (by kernel_rfl) rfl rfl (wanted_none rfl) (r_call1 Try.func7 (by kernel_rfl) rfl rfl (by simp [eval_put_ne, eval_put_eq, size_put, hts])) (ctrright_at v1 c false HRC.out) ?_
    rintro e v2 ⟨rfl, k2⟩
    have kk2 := k1.trans k2 (fun _ _ h => h)
    refine ⟨_, rfl, kk2, ?_⟩
    refine tkS 4 33 (v := .bool true) kk2 rfl rfl (by kernel_rfl) (by kernel_rfl) (by kernel_rfl) (by kernel_rfl) (wanted_none rfl) (fun _ _ _ h => h) (fun U hU => r_cteq4 (p := false) (by simp [eval_put_ne, eval_put_eq, size_put, hts]) (by simp [eval_put_ne, eval_put_eq, size_put, hts])) ?_
    refine tkS 5 34 (v := .bool true) kk2 rfl rfl (by kernel_rfl) (by kernel_rfl) (by kernel_rfl) (by kernel_rfl) (wanted_none rfl) (fun _ _ _ h => h) (fun U hU => r_move (by simp [eval_put_ne, eval_put_eq, size_put, hts])) ?_
    refine tkS 6 35 (v := ctAgg c) kk2 rfl rfl (by kernel_rfl) (by kernel_rfl) (by kernel_rfl) (by kernel_rfl) (wanted_some (j := 5) (d := 34) (bb := true) rfl rfl rfl (by simp [eval_put_ne, eval_put_eq, size_put, hts]) (by simp [size_put, hts])) (fun _ _ _ h => h) (fun U hU => r_ld23 (b := bc) (by simp [eval_put_ne, eval_put_eq, size_put, hts, e2]) ((hS0.trans hU (fun _ _ h => h)).blk HC0.out (fun h => h))) ?_
    refine tkS 9 38 (v := .string (strN [])) kk2 rfl rfl (by kernel_rfl) (by kernel_rfl) (by kernel_rfl) (by kernel_rfl) (wanted_some (j := 5) (d := 34) (bb := true) rfl rfl rfl (by simp [eval_put_ne, eval_put_eq, size_put, hts]) (by simp [size_put, hts])) (fun _ _ _ h => h) (fun U hU => r_move (by simp [eval_put_ne, eval_put_eq, size_put, hts, e5])) ?_
    refine oneCS 7 36 (by kernel_rfl) rfl rfl (wanted_some (j := 5) (d := 34) (bb := true) rfl rfl rfl (by simp [eval_put_ne, eval_put_eq, size_put, hts]) (by simp [size_put, hts])) (r_call1 Try.func12 (by kernel_rfl) rfl rfl (by simp [eval_put_ne, eval_put_eq, size_put, hts])) (ctput_no v2 c HRC.out) ?_
    rintro e v3 ⟨rfl, k3⟩
    have kk3 := kk2.trans k3 (fun _ _ h => h)
    have hsp : Src v3 (.slice none 0 0) [] := Src.nil v3
    refine ⟨_, rfl, kk3, ?_⟩
    refine raiseM (S' := Kept (fun _ => False) v3) (fun U hU => kk3.trans hU (fun _ _ h => h)) ?_
    have hs3 : (Kept (fun _ => False) v3) _ := Kept.refl _ _
    refine tkS 8 37 (v := .string (strN [])) hs3 rfl rfl (by kernel_rfl) (by kernel_rfl) (by kernel_rfl) (by kernel_rfl) (wanted_some (j := 5) (d := 34) (bb := true) rfl rfl rfl (by simp [eval_put_ne, eval_put_eq, size_put, hts]) (by simp [size_put, hts])) (fun _ _ _ h => h) (fun U hU => r_strS (v := .slice none 0 0) (by simp [eval_put_ne, eval_put_eq, size_put, hts]) (hsp.kept hU)) ?_
    refine tkS 10 39 (v := .bool true) hs3 rfl rfl (by kernel_rfl) (by kernel_rfl) (by kernel_rfl) (by kernel_rfl) (wanted_some (j := 5) (d := 34) (bb := true) rfl rfl rfl (by simp [eval_put_ne, eval_put_eq, size_put, hts]) (by simp [size_put, hts])) (fun _ _ _ h => h) (fun U hU => r_ctself9 (A := []) (by simp [eval_put_ne, eval_put_eq, size_put, hts]) (by simp [eval_put_ne, eval_put_eq, size_put, hts])) ?_
    refine tkS 11 40 (v := .bool true) hs3 rfl rfl (by kernel_rfl) (by kernel_rfl) (by kernel_rfl) (by kernel_rfl) (wanted_none rfl) (fun _ _ _ h => h) (fun U hU => r_pick (by simp [eval_put_ne, eval_put_eq, size_put, hts]) (by simp [eval_put_ne, eval_put_eq, size_put, hts])) ?_
    refine tkS 12 41 (v := .bool true) hs3 rfl rfl (by kernel_rfl) (by kernel_rfl) (by kernel_rfl) (by kernel_rfl) (wanted_none rfl) (fun _ _ _ h => h) (fun U hU => r_move (by simp [eval_put_ne, eval_put_eq, size_put, hts])) ?_
    refine tkS 13 42 (v := .agg (ctV z).toArray) hs3 rfl rfl (by kernel_rfl) (by kernel_rfl) (by kernel_rfl) (by kernel_rfl) (wanted_some (j := 12) (d := 41) (bb := true) rfl rfl rfl (by simp [eval_put_ne, eval_put_eq, size_put, hts]) (by simp [size_put, hts])) (fun _ _ _ h => h) (fun U hU => r_ld23v (b := bx) (by simp [eval_put_ne, eval_put_eq, size_put, hts, e6]) ((kk3.trans hU (fun _ _ h => h)).blk HX0.out (fun h => h))) ?_
    refine tkS 14 43 (v := .agg (ctV z).toArray) hs3 rfl rfl (by kernel_rfl) (by kernel_rfl) (by kernel_rfl) (by kernel_rfl) (wanted_some (j := 12) (d := 41) (bb := true) rfl rfl rfl (by simp [eval_put_ne, eval_put_eq, size_put, hts]) (by simp [size_put, hts])) (fun _ _ _ h => h) (fun U hU => r_ld23v (b := by_) (by simp [eval_put_ne, eval_put_eq, size_put, hts, e8]) ((kk3.trans hU (fun _ _ h => h)).blk HY0.out (fun h => h))) ?_
    refine tkS 15 44 (v := .bool true) hs3 rfl rfl (by kernel_rfl) (by kernel_rfl) (by kernel_rfl) (by kernel_rfl) (wanted_some (j := 12) (d := 41) (bb := true) rfl rfl rfl (by simp [eval_put_ne, eval_put_eq, size_put, hts]) (by simp [size_put, hts])) (fun _ _ _ h => h) (fun U hU => r_ctself23 (c := z) (by simp [eval_put_ne, eval_put_eq, size_put, hts]) (by simp [eval_put_ne, eval_put_eq, size_put, hts])) ?_
    refine tkS 16 45 (v := .bool true) hs3 rfl rfl (by kernel_rfl) (by kernel_rfl) (by kernel_rfl) (by kernel_rfl) (wanted_none rfl) (fun _ _ _ h => h) (fun U hU => r_pick (by simp [eval_put_ne, eval_put_eq, size_put, hts]) (by simp [eval_put_ne, eval_put_eq, size_put, hts])) ?_
    refine tkS 17 46 (v := .bool true) hs3 rfl rfl (by kernel_rfl) (by kernel_rfl) (by kernel_rfl) (by kernel_rfl) (wanted_none rfl) (fun _ _ _ h => h) (fun U hU => r_move (by simp [eval_put_ne, eval_put_eq, size_put, hts])) ?_
    refine tkS 18 47 (v := .int .i64 er) hs3 rfl rfl (by kernel_rfl) (by kernel_rfl) (by kernel_rfl) (by kernel_rfl) (wanted_some (j := 17) (d := 46) (bb := true) rfl rfl rfl (by simp [eval_put_ne, eval_put_eq, size_put, hts]) (by simp [size_put, hts])) (fun _ _ _ h => h) (fun U hU => r_move (by simp [eval_put_ne, eval_put_eq, size_put, hts, e7])) ?_
    refine tkS 19 48 (v := .int .i64 er) hs3 rfl rfl (by kernel_rfl) (by kernel_rfl) (by kernel_rfl) (by kernel_rfl) (wanted_some (j := 17) (d := 46) (bb := true) rfl rfl rfl (by simp [eval_put_ne, eval_put_eq, size_put, hts]) (by simp [size_put, hts])) (fun _ _ _ h => h) (fun U hU => r_move (by simp [eval_put_ne, eval_put_eq, size_put, hts, e9])) ?_
    refine tkS 20 49 (v := .bool true) hs3 rfl rfl (by kernel_rfl) (by kernel_rfl) (by kernel_rfl) (by kernel_rfl) (wanted_some (j := 17) (d := 46) (bb := true) rfl rfl rfl (by simp [eval_put_ne, eval_put_eq, size_put, hts]) (by simp [size_put, hts])) (fun _ _ _ h => h) (fun U hU => r_ctself3 (i := er) (by simp [eval_put_ne, eval_put_eq, size_put, hts]) (by simp [eval_put_ne, eval_put_eq, size_put, hts])) ?_
    refine tkS 21 50 (v := .bool true) hs3 rfl rfl (by kernel_rfl) (by kernel_rfl) (by kernel_rfl) (by kernel_rfl) (wanted_none rfl) (fun _ _ _ h => h) (fun U hU => r_pick (by simp [eval_put_ne, eval_put_eq, size_put, hts]) (by simp [eval_put_ne, eval_put_eq, size_put, hts])) ?_
    refine tkS 22 4 (v := .bool true) hs3 rfl rfl (by kernel_rfl) (by kernel_rfl) (by kernel_rfl) (by kernel_rfl) (wanted_none rfl) (fun _ _ _ h => h) (fun U hU => r_assign (by simp [eval_put_ne, eval_put_eq, size_put, hts])) ?_
    refine doneS (by kernel_rfl) ?_
    rw [hfr.out]
    clear hfr e2 e5 e6 e7 e8 e9 hts
    simp only [put_lit, put_none, List.set_cons_succ, List.set_cons_zero]
    have HK9 := hide ((HK.out.trans hkw (fun _ _ h => h)).trans kk3 (fun _ _ h => h))
    clear hs3 kk3 kk2 k1 k2 k3 hS0 hkw hheap hsp
    go_wp2
    go_ret
    exact ⟨rfl, HK9.out⟩
end Go.Proofs.Ytapoagpkjngjpaa

/-
  ControlTells answers true for every control and every list of bytes, and its arguments read afterwards as before. Conditions: none.
-/
namespace Go.Proofs.Ytapoagpkjngjpaa
open Go.ChangeShapes Go.WideShapes Go.ChangeAt Go.RowKit
set_option linter.unusedSimpArgs false
set_option linter.unusedVariables false
set_option maxRecDepth 100000

theorem cttells_lifted (os : Os) (started : os.Started) (H : Type) (enc : TypeId × Value → H) :
    ReturnsInHanded {} Try.checked os 3 .any (Rows.controlTellsSpec.pre6 enc Try.prog Try.f3 Rows.controlTellsRow.domain false) (Rows.controlTellsSpec.post enc Try.prog Try.f3 false true false false) := by
  refine returnsInHanded_of_change (C := Try.checked) Try.own started (by kernel_rfl) Try.func3
    (ChangeSpec.witness6 (enc := enc) (C := Try.checked) false ⟨#[], #[.agg #[.int .i64 0, .int .i64 0, .int .i64 0, .int .i64 0, .int .i64 0, .int .i64 0, .int .i64 0], .slice none 0 0], []⟩ 8 (by kernel_rfl) (by kernel_rfl) (by kernel_rfl) (by kernel_rfl)) ?_
  intro W base args ds gs before hval0 hW hcnd _
  have hval : ∀ (j : Nat) t v, Try.f3.params[j]? = some t → args[j]? = some v → Value.okWide Try.prog W .any base t v := hval0
  have hW' := hW
  obtain ⟨p, q, hA0, hV, rfl, hfz, hnd⟩ := hW
  have hA : DataW.TrodAll enc Try.prog W 0 (fun _ => true) true Try.f3.params.toList args.toList ds p := hA0
  rw [Try.params3] at hA hval
  obtain ⟨v0, v1, d0, d1, p0, p1, rfl, rfl, rfl, h0, h1⟩ := trodAll_two hA
  obtain ⟨rfl, rfl⟩ := trodVars_none hV
  have k0 := h0
  have k1 := h1
  have lt0 : ∀ x ∈ p0, x.block < W.heap.size := by obtain ⟨m, hm⟩ := k0; exact DataW.trod_lt m _ _ _ hm
  have lt1 : ∀ x ∈ p1, x.block < W.heap.size := by obtain ⟨m, hm⟩ := k1; exact DataW.trod_lt m _ _ _ hm
  obtain ⟨c, rfl, _⟩ := open_ct (hval 0 23 v0 rfl rfl) h0
  obtain ⟨ao, len, cap, rfl⟩ := okWide_slice Try.underlying24 (hval 1 24 v1 rfl rfl)
  obtain ⟨B, rfl, hlm, hsrc⟩ := open_bytes h1
  clear hA0 hval0
  refine (cttells_at W c _ B hsrc hlm).mono fun e W' ⟨he, hk⟩ => ?_
  subst he
  have bel := hk.below
  exact ⟨_, rfl, _, _, _, [], _, [], hW', trodAll_mk1 (shut_bool Try.underlying4 _), (trodAll_cons_mk (Below.trod Try.laidOut (by kernel_rfl) (of_decide_eq_true (by kernel_rfl)) k0 bel lt0) (trodAll_cons_mk (Below.trod Try.laidOut (by kernel_rfl) (of_decide_eq_true (by kernel_rfl)) k1 bel lt1) trodAll_mk0)), rfl, bel.frame _, fun h => by cases h⟩

theorem controlTells_holds : Rows.ControlTellsSaid :=
  OpenClaim.holds_of_wide 3 Try.f3 rfl rfl rfl rfl rfl rfl rfl ⟨rfl, rfl, rfl, rfl, rfl⟩ rfl rfl rfl rfl rfl (by kernel_rfl) Try.func3 (by kernel_rfl)
    (of_decide_eq_true (by kernel_rfl)) (by unfold Func.isWrapper; first | (rw [if_pos (by decide +kernel)]; kernel_rfl) | (rw [if_neg (by decide +kernel)]; exact ⟨rfl, rfl⟩))
    (fun os started H enc _ => cttells_lifted os started H enc)

end Go.Proofs.Ytapoagpkjngjpaa
