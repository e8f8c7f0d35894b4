/-
  ImagePlays, over lists of writes.
-/
import Derived.Test.YtlpjhgcafkdhdaaITake
import Derived.Test.YtlpjhgcafkdhdaaIStaysW
import Derived.Test.YtlpjhgcafkdhdaaIOpen
namespace Go.Proofs.Ytlpjhgcafkdhdaa
open Go.RowKit Go.Shelf
set_option linter.unusedSimpArgs false
set_option linter.unusedVariables false
set_option maxRecDepth 100000

section
variable {ρ : Operand → Value} {w : World} {dst : Option Tmp} {ty : TypeId} {pos : String} {aft : Array Edge} {gd : Option (Nat × Bool)} {x y z : Operand}
theorem r_ld9 {b : Nat} {t : ByteArray} (hx : ρ x = .pointer (some ⟨b, 0, none⟩)) (hb : Blk w b [.string t] 9) : (execOp ρ ⟨dst, .load 9 x, ty, pos, aft, gd⟩).run Try.prog w = .ok (.value (.string t)) w := by
  have hc : w.cell? ⟨b, 0, none⟩ = some (.string t) := hb.cell 0
  go_simp
theorem r_ld3b {b : Nat} {i : Int} (hx : ρ x = .pointer (some ⟨b, 0, none⟩)) (hb : Blk w b [.int .i64 i] 3) : (execOp ρ ⟨dst, .load 3 x, ty, pos, aft, gd⟩).run Try.prog w = .ok (.value (.int .i64 i)) w := by
  have hc : w.cell? ⟨b, 0, none⟩ = some (.int .i64 i) := hb.cell 0
  go_simp
theorem r_eq9r {p q : ByteArray} {r : Bool} (hx : ρ x = .string p) (hy : ρ y = .string q) (h : decide (p = q) = r) : (execOp ρ ⟨dst, .binOp .eql 9 x y 9, ty, pos, aft, gd⟩).run Try.prog w = .ok (.value (.bool r)) w := by
  subst h
  exact r_eql9 hx hy
theorem r_eq9t {p : ByteArray} (hx : ρ x = .string p) (hy : ρ y = .string p) : (execOp ρ ⟨dst, .binOp .eql 9 x y 9, ty, pos, aft, gd⟩).run Try.prog w = .ok (.value (.bool true)) w := r_eq9r hx hy (by simp)
theorem r_eq3t {p : Int} (hx : ρ x = .int .i64 p) (hy : ρ y = .int .i64 p) : (execOp ρ ⟨dst, .binOp .eql 3 x y 3, ty, pos, aft, gd⟩).run Try.prog w = .ok (.value (.bool true)) w := by
  have h := r_eql3 (dst := dst) (ty := ty) (pos := pos) (aft := aft) (gd := gd) (w := w) hx hy
  simpa using h
theorem r_neq4r {r : Bool} (hx : ρ x = .bool r) (hy : ρ y = .bool r) : (execOp ρ ⟨dst, .binOp .neq 4 x y 4, ty, pos, aft, gd⟩).run Try.prog w = .ok (.value (.bool false)) w := by
  have h := r_neq4 (dst := dst) (ty := ty) (pos := pos) (aft := aft) (gd := gd) (w := w) hx hy
  simpa using h
theorem r_strT {v : Value} {B : List Nat} {t : ByteArray} (hx : ρ x = v) (hs : Src w v B) (ht : strN B = t) : (execOp ρ ⟨dst, .convert 28 9 x, ty, pos, aft, gd⟩).run Try.prog w = .ok (.value (.string t)) w := by
  subst ht
  exact r_strS hx hs
end

theorem Try.info9 : (Try.prog.info? 9).map (fun i => (i.zero, i.size, i.bytes)) = some (some (.string ⟨#[]⟩), 1, 16) := by kernel_rfl
/-- No disk, of so many blocks. -/
theorem plays_no (w : World) (n : Int) (v : Value) (hn : ¬ (1 ≤ n ∧ n ≤ 64)) : Calls Try.prog 3 #[.int .i64 n, v] w fun e w' => e = .returned (.bool true) ∧ Kept (fun _ => False) w w' := by
  have HN := hide hn
  have hcond : (decide (n < 1) || decide (64 < n)) = true := by simp; omega
  have key : ∀ (w1 : World), Kept (fun _ => False) w w1 → True := fun _ _ => trivial
  clear hn key
  by_cases h1 : n < 1
  · go_enter Try.func3, Try.ntmps3
    go_wp2_with (go_at_call 7; refine (first_at _).mono ?_; rintro e w1 ⟨rfl, hk1⟩; have K1 := hide hk1; clear hk1)
    refine (new_no w1 n HN.out).mono ?_
    rintro e w2 ⟨rfl, rfl⟩
    go_wp2_with fail
    refine (get_nil w1 0).mono ?_
    rintro e w2 ⟨rfl, rfl⟩
    go_wp2_with fail
    refine (with_nil w1 _).mono ?_
    rintro e w2 ⟨rfl, rfl⟩
    go_wp2_with fail
    refine (blocks_at w1 _ 0 [] (DkAt.nil _)).mono ?_
    rintro e w2 ⟨rfl, rfl⟩
    go_wp2_with fail
    refine (bytes_at w1 _ 0 [] (DkAt.nil _)).mono ?_
    rintro e w2 ⟨s, rfl, ho, hk2⟩
    have hsn : s.n = 0 := by
      obtain ⟨bo, c, e, _⟩ := ho.src
      simp only [Sl.v, Value.slice.injEq] at e
      exact e.2.1
    obtain ⟨sa, sn, sc⟩ := s
    simp only at hsn
    subst hsn
    have K2 := hide (K1.out.trans hk2 (fun _ _ h => h))
    clear ho hk2
    go_wp2_with fail
    refine (same_at w2 _ _ 0 0 [] [] (DkAt.nil _) (DkAt.nil _) true (by simp)).mono ?_
    rintro e w3 ⟨rfl, hk3⟩
    go_wp2
    go_ret
    exact ⟨rfl, K2.out.trans hk3 (fun _ _ h => h)⟩
  · have h2 : 64 < n := by have := HN.out; omega
    go_enter Try.func3, Try.ntmps3
    go_wp2_with (go_at_call 7; refine (first_at _).mono ?_; rintro e w1 ⟨rfl, hk1⟩; have K1 := hide hk1; clear hk1)
    refine (new_no w1 n HN.out).mono ?_
    rintro e w2 ⟨rfl, rfl⟩
    go_wp2_with fail
    refine (get_nil w1 0).mono ?_
    rintro e w2 ⟨rfl, rfl⟩
    go_wp2_with fail
    refine (with_nil w1 _).mono ?_
    rintro e w2 ⟨rfl, rfl⟩
    go_wp2_with fail
    refine (blocks_at w1 _ 0 [] (DkAt.nil _)).mono ?_
    rintro e w2 ⟨rfl, rfl⟩
    go_wp2_with fail
    refine (bytes_at w1 _ 0 [] (DkAt.nil _)).mono ?_
    rintro e w2 ⟨s, rfl, ho, hk2⟩
    have hsn : s.n = 0 := by
      obtain ⟨bo, c, e, _⟩ := ho.src
      simp only [Sl.v, Value.slice.injEq] at e
      exact e.2.1
    obtain ⟨sa, sn, sc⟩ := s
    simp only at hsn
    subst hsn
    have K2 := hide (K1.out.trans hk2 (fun _ _ h => h))
    clear ho hk2
    go_wp2_with fail
    refine (same_at w2 _ _ 0 0 [] [] (DkAt.nil _) (DkAt.nil _) true (by simp)).mono ?_
    rintro e w3 ⟨rfl, hk3⟩
    go_wp2
    go_ret
    exact ⟨rfl, K2.out.trans hk3 (fun _ _ h => h)⟩


set_option maxRecDepth 100000 in
set_option maxHeartbeats 16000000 in
theorem plays_ok (w : World) (m : Nat) (hm : 1 ≤ m ∧ m ≤ 64) (v : Value) (ls : List (Sl × List Wv)) (hls : LsAt w v ls) : Calls Try.prog 3 #[.int .i64 m, v] w fun e w' => e = .returned (.bool true) ∧ Kept (fun _ => False) w w' := by
  have Hm := hide hm
  have HLS := hide hls
  obtain ⟨ao, cap, rfl⟩ := hls.slice
  obtain ⟨len, hlen⟩ : ∃ len, ls.length = len := ⟨_, rfl⟩
  have HLen := hide hlen
  have hmax := hls.2.2
  rw [hlen] at hmax ⊢
  have q1 : ¬ ((m : Int) < 1) := by omega
  have q2 : ¬ (64 < (m : Int)) := by omega
  obtain ⟨i9, hi9, hz9, hs9, hb9⟩ := info_parts Try.info9
  have Hi9 := hide hi9
  have Hz9 := hide hz9
  have Hs9 := hide hs9
  obtain ⟨i3, hi3, hz3, hs3, hb3⟩ := info_parts Try.info3
  have Hi3 := hide hi3
  have Hz3 := hide hz3
  have Hs3 := hide hs3
  obtain ⟨lv, hlv⟩ : ∃ lv, lv = Value.slice ao len cap := ⟨_, rfl⟩
  clear hlen hls hm hi9 hz9 hs9 hb9 hi3 hz3 hs3 hb3
  go_enter Try.func3, Try.ntmps3
  go_wp2_with (go_at_call 7; refine (first_at _).mono ?_; rintro e w1 ⟨rfl, hk1⟩; have K1 := hide hk1; clear hk1)
  refine (new_ok w1 m Hm.out).mono ?_
  rintro e w2 ⟨d0, rfl, hk2, hd2⟩
  obtain ⟨p0, rfl, -⟩ := hd2.ptr
  have K2 := hide (K1.out.trans hk2 (fun _ _ h => h))
  obtain ⟨Z, hZ⟩ : ∃ Z, List.replicate (64 * m) 0 = Z := ⟨_, rfl⟩
  rw [hZ] at hd2
  have DZ2 := hide hd2
  have HZl := hide hd2.len
  have HZlt := hide hd2.lt
  clear hk2 hd2 K1
  go_wp2_with fail
  refine (zero_at w2 m Hm.out).mono ?_
  rintro e w3 ⟨rfl, hk3⟩
  rw [hZ]
  obtain ⟨tz, htz⟩ : ∃ t, strN Z = t := ⟨_, rfl⟩
  rw [htz]
  have HTz := hide htz
  have K3 := hide (K2.out.trans hk3 (fun _ _ h => h))
  have DZ3 := hide (DZ2.out.kept hk3)
  clear hk3 K2 DZ2 hZ htz
  go_wp2_with (first
    | ((with_reducible refine aw_alloc (t := 9) (dst := some 11) Hi9.out Hz9.out ?_); intro w4 hw4 hk4 hz4; have HW4 := hide hw4; have HK4 := hide hk4; clear hz4 hw4 hk4)
    | (with_reducible refine stop_store 9 ?_)
    | fail)
  refine hide ?_
  refine aw_store1 (v := .string tz) Hi9.out Hs9.out rfl rfl rfl rfl HW4.out (by simp [Value.cells]) ?_
  intro w5 hw5 hk5 hz5
  have hE5 : Blk w5 w3.heap.size [.string tz] 9 := by simpa [Value.cells] using hw5
  obtain ⟨ex, hex⟩ : ∃ ex, ex = w3.heap.size := ⟨_, rfl⟩
  rw [← hex] at hE5 ⊢
  have HE5 := hide hE5
  have HK45 : Hid (Kept (fun _ => False) w3 w5) := hide (HK4.out.trans hk5 (fun i hi h => by omega))
  have HNex : Hid (w.heap.size ≤ ex) := hide (by rw [hex]; exact K3.out.size)
  have K5 := hide (K3.out.trans HK45.out (fun _ _ h => h))
  have DZ5 := hide (DZ3.out.kept HK45.out)
  clear hw5 hk5 hz5 hE5 hex HK45 HW4 HK4 K3 DZ3
  try simp only [put_lit, put_none, List.set_cons_succ, List.set_cons_zero]
  go_wp2_with fail
  refine region_tail 3 Try.mixed (by kernel_rfl) ?_
  intro w6 hk6 hz6
  simp only [List.take_succ_cons, List.take_zero, List.drop_succ_cons, List.drop_zero]
  have c0 : w6.cell? ⟨ex, 0, none⟩ = some (.string tz) := (hk6.blk HE5.out (fun h => h)).cell 0
  have HE6 := hide (hk6.blk HE5.out (fun h => h))
  have K6 := hide (K5.out.trans hk6 (fun _ _ h => h))
  have DZ6 := hide (DZ5.out.kept hk6)
  clear hk6 hz6 HE5 K5 DZ5
  still_step
  still_step
  still_step
  refine wpStill_nil ?_
  clear c0
  go_wp2
  go_loopw [5, 84] (fun o i wr => ∃ (k : Nat) (pd : Option Addr) (X : List Nat), o = .pointer pd ∧ i = .int .i64 k ∧ k ≤ len ∧ Hid (DkAt wr (.pointer pd) m X) ∧ Hid (DkAt wr (.pointer p0) m Z) ∧ Hid (Blk wr ex [.string (strN X)] 9) ∧ Hid (Kept (fun _ => False) w wr))
    (fun o i _ => len - (intOf i).toNat)
  case atStart => exact ⟨0, p0, Z, rfl, rfl, Nat.zero_le _, DZ6, DZ6, hide (by rw [HTz.out]; exact HE6.out), K6⟩
  case round =>
    obtain ⟨k, pd, X, rfl, rfl, hk, DX, DZ, HEx, Kr⟩ := hrel
    by_cases hlt : k < len
    · obtain ⟨g, off, rfl, c0, hws⟩ := (HLS.out.kept Kr.out).get (show k < ls.length by rw [HLen.out]; exact hlt)
      obtain ⟨⟨sa, sn, sc⟩, hs⟩ : ∃ s, s = (ls[k]'(by rw [HLen.out]; exact hlt)).1 := ⟨_, rfl⟩
      obtain ⟨l, hl⟩ : ∃ l, l = (ls[k]'(by rw [HLen.out]; exact hlt)).2 := ⟨_, rfl⟩
      rw [← hs, ← hl] at hws
      rw [← hs] at c0
      simp only at c0
      have hsn : sn = l.length := hws.len
      have HSn := hide hsn
      have HWS := hide hws
      have hXlen := hide DX.out.len
      have hXlt := hide DX.out.lt
      obtain ⟨tx, htx⟩ : ∃ t, strN X = t := ⟨_, rfl⟩
      have HTx := hide htx
      rw [htx] at HEx
      have c1 : wr.cell? ⟨ex, 0, none⟩ = some (.string tx) := HEx.out.cell 0
      clear hs hl hws hsn htx
      by_cases h20 : (20 : Int) ≤ k
      · go_wp2
        go_ret
        exact ⟨rfl, Kr.out⟩
      by_cases h30 : (30 : Int) < sn
      · go_wp2
        go_ret
        exact ⟨rfl, Kr.out⟩
      have HRW := hide (rwith_at wr X m hXlen.out hXlt.out Hm.out.2 _ l HWS.out)
      rw [HTx.out] at HRW
      obtain ⟨ee, hee⟩ : ∃ ee, withE m (l.map Wv.wr) = ee := ⟨_, rfl⟩
      have HEE := hide hee
      rw [hee] at HRW
      clear hee
      go_wp2_with fail
      refine HRW.out.mono ?_
      rintro e wa ⟨S, rfl, hS, hka⟩
      have Ka := hide (Kr.out.trans hka (fun _ _ h => h))
      have DXa := hide (DX.out.kept hka)
      have DZa := hide (DZ.out.kept hka)
      have HExa := hide (hka.blk HEx.out (fun h => h))
      have HWSa := hide (HWS.out.kept hka)
      have HS := hide hS
      clear hka hS c0 c1 Kr DX DZ HEx HWS HRW
      go_wp2_with fail
      refine (with_at wa _ m X DXa.out Hm.out.1 _ l HWSa.out).mono ?_
      rintro e wb ⟨dn, he, hwi, hkb⟩
      rw [HEE.out] at he
      subst he
      have Kb := hide (Ka.out.trans hkb (fun _ _ h => h))
      have DX := hide (DXa.out.kept hkb)
      have DZ := hide (DZa.out.kept hkb)
      have HEx := hide (hkb.blk HExa.out (fun h => h))
      have hee3 : (ee != ee) = false := by simp
      by_cases he0 : ee = 0
      · have hY := hwi.1 (HEE.out.trans he0)
        have hSY := HS.out he0
        obtain ⟨Y, hYd⟩ : ∃ Y, Y = withB X (l.map Wv.wr) := ⟨_, rfl⟩
        rw [← hYd] at hY hSY
        subst S
        obtain ⟨pn, rfl, hpn⟩ := hY.ptr
        have DY := hide hY
        obtain ⟨ty, hty⟩ : ∃ t, strN Y = t := ⟨_, rfl⟩
        have HTy := hide hty
        rw [hty]
        subst he0
        obtain ⟨r, hr⟩ : ∃ r, decide (m = m ∧ X = Y) = r := ⟨_, rfl⟩
        have Hr1 := hide hr
        have Hr2 : Hid (decide (tx = ty) = r) := hide (by
          rw [← hr, ← HTx.out, ← HTy.out]
          exact decide_eq_decide.2 (by rw [strN_iff hXlt.out DY.out.lt]; simp))
        have HLD : Hid ((diffB m X m Y).length ≤ 1000 ∧ (diffB m Y 0 []).length ≤ 1000) := hide (by
          have h1 := diffTo_len m X m Y (max m m)
          have h2 := diffTo_len m Y 0 [] (max m 0)
          have h3 := Hm.out
          rw [Nat.max_self] at h1
          rw [Nat.max_eq_left (Nat.zero_le _)] at h2
          exact ⟨by unfold diffB; rw [Nat.max_self]; omega, by unfold diffB; rw [Nat.max_eq_left (Nat.zero_le _)]; omega⟩)
        have HRD := hide (fun w' => rdiff_at w' m m X Y hXlen.out DY.out.len hXlt.out DY.out.lt Hm.out.2 Hm.out.2)
        have HRN := hide (fun w' => rdiff_at w' m 0 Y [] DY.out.len rfl DY.out.lt (by simp) Hm.out.2 (by decide))
        simp only [HTx.out, HTy.out] at HRD
        simp only [HTy.out] at HRN
        clear hwi hkb hY hYd hty hr Ka DXa DZa HExa HWSa HS HEE hpn
        go_wp2_with fail
        refine hold_frame (p := fun fr => Code.wp Try.prog _ _ fr _) ?_
        intro fr hfr
        have e5 : fr.eval (.tmp 5) = .pointer pd := by rw [hfr.out]; rfl
        have e11 : fr.eval (.tmp 11) = .pointer (some ⟨ex, 0, none⟩) := by rw [hfr.out]; rfl
        have e16 : fr.eval (.tmp 16) = .string ty := by rw [hfr.out]; rfl
        have e18 : fr.eval (.tmp 18) = .pointer pn := by rw [hfr.out]; rfl
        have hts : fr.tmps.size = 212 := by rw [hfr.out]; rfl
        refine region_S0 99 Try.mixed ?_
        intro w0 hkw hheap
        have hD0 := DX.out.kept hkw
        have hY0 := DY.out.kept hkw
        have hE0 := hkw.blk HEx.out (fun h => h)
        have hS0 : Kept (fun _ => False) w0 w0 := Kept.refl (fun _ => False) w0
        refine ⟨Kept (fun _ => False) w0, ?_⟩
        refine tkS 0 121 (v := .pointer pd) hS0 rfl rfl (by kernel_rfl) (by kernel_rfl) (by kernel_rfl) (by kernel_rfl) (wanted_none rfl) (fun _ _ _ h => h) (fun U hU => r_move (by simp [eval_put_ne, eval_put_eq, size_put, hts, e5])) ?_
        refine tkS 1 122 (v := .pointer pn) hS0 rfl rfl (by kernel_rfl) (by kernel_rfl) (by kernel_rfl) (by kernel_rfl) (wanted_none rfl) (fun _ _ _ h => h) (fun U hU => r_move (by simp [eval_put_ne, eval_put_eq, size_put, hts, e18])) ?_
        refine tkS 3 124 (v := .string tx) hS0 rfl rfl (by kernel_rfl) (by kernel_rfl) (by kernel_rfl) (by kernel_rfl) (wanted_none rfl) (fun _ _ _ h => h) (fun U hU => r_ld9 (by simp [eval_put_ne, eval_put_eq, size_put, hts, e11]) (hU.blk hE0 (fun h => h))) ?_
        refine tkS 4 125 (v := .string ty) hS0 rfl rfl (by kernel_rfl) (by kernel_rfl) (by kernel_rfl) (by kernel_rfl) (wanted_none rfl) (fun _ _ _ h => h) (fun U hU => r_move (by simp [eval_put_ne, eval_put_eq, size_put, hts, e16])) ?_
        refine oneCS 2 123 (by kernel_rfl) rfl rfl (wanted_none rfl) (r_call2 Try.func17 (by kernel_rfl) rfl rfl (by simp [eval_put_ne, eval_put_eq, size_put, hts]) (by simp [eval_put_ne, eval_put_eq, size_put, hts])) (diff_at w0 _ _ m m X Y hD0 hY0) ?_
        rintro e v1 ⟨q1, rfl, g1⟩
        have kv1 := g1.2.2
        refine ⟨_, rfl, kv1, ?_⟩
        refine raiseM (S' := Kept (fun _ => False) v1) (fun U hU => kv1.trans hU (fun _ _ h => h)) ?_
        have hsv1 : (Kept (fun _ => False) v1) _ := Kept.refl _ _
        have hDv1 := hD0.kept kv1
        have hYv1 := hY0.kept kv1
        have hEv1 := kv1.blk hE0 (fun h => h)
        have hKv1 := hkw.trans kv1 (fun _ _ h => h)
        have gs1 := g1.src
        refine oneCS 5 126 (by kernel_rfl) rfl rfl (wanted_none rfl) (r_call2 Try.func18 (by kernel_rfl) rfl rfl (by simp [eval_put_ne, eval_put_eq, size_put, hts]) (by simp [eval_put_ne, eval_put_eq, size_put, hts])) (HRD.out v1) ?_
        rintro e v2 ⟨q2, rfl, g2⟩
        have kv2 := g2.2.2
        refine ⟨_, rfl, kv2, ?_⟩
        refine raiseM (S' := Kept (fun _ => False) v2) (fun U hU => kv2.trans hU (fun _ _ h => h)) ?_
        have hsv2 : (Kept (fun _ => False) v2) _ := Kept.refl _ _
        have hDv2 := hDv1.kept kv2
        have hYv2 := hYv1.kept kv2
        have hEv2 := kv2.blk hEv1 (fun h => h)
        have hKv2 := hKv1.trans kv2 (fun _ _ h => h)
        have gs2 := g2.src
        have gs1 := gs1.kept kv2 (fun _ _ h => h)
        refine oneCS 6 127 (by kernel_rfl) rfl rfl (wanted_none rfl) (r_call2 Try.func16 (by kernel_rfl) rfl rfl (by simp [eval_put_ne, eval_put_eq, size_put, hts]) (by simp [eval_put_ne, eval_put_eq, size_put, hts])) (isame_at v2 _ _ (diffB m X m Y) (diffB m X m Y) gs1 gs2 ⟨HLD.out.1, HLD.out.1⟩ true (by simp)) ?_
        rintro e v3 ⟨rfl, kv3⟩
        refine ⟨_, rfl, kv3, ?_⟩
        refine raiseM (S' := Kept (fun _ => False) v3) (fun U hU => kv3.trans hU (fun _ _ h => h)) ?_
        have hsv3 : (Kept (fun _ => False) v3) _ := Kept.refl _ _
        have hDv3 := hDv2.kept kv3
        have hYv3 := hYv2.kept kv3
        have hEv3 := kv3.blk hEv2 (fun h => h)
        have hKv3 := hKv2.trans kv3 (fun _ _ h => h)
        refine tkS 7 128 (v := .bool false) hsv3 rfl rfl (by kernel_rfl) (by kernel_rfl) (by kernel_rfl) (by kernel_rfl) (wanted_none rfl) (fun _ _ _ h => h) (fun U hU => r_not (b := true) (by simp [eval_put_ne, eval_put_eq, size_put, hts])) ?_
        refine tkS 8 129 (v := .bool false) hsv3 rfl rfl (by kernel_rfl) (by kernel_rfl) (by kernel_rfl) (by kernel_rfl) (wanted_none rfl) (fun _ _ _ h => h) (fun U hU => r_move (by simp [eval_put_ne, eval_put_eq, size_put, hts])) ?_
        refine tkS 9 130 (v := .pointer pd) hsv3 rfl rfl (by kernel_rfl) (by kernel_rfl) (by kernel_rfl) (by kernel_rfl) (wanted_some (j := 8) (d := 129) (bb := false) rfl rfl rfl (by simp [eval_put_ne, eval_put_eq, size_put, hts]) (by simp [size_put, hts])) (fun _ _ _ h => h) (fun U hU => r_move (by simp [eval_put_ne, eval_put_eq, size_put, hts, e5])) ?_
        refine tkS 10 131 (v := .pointer pn) hsv3 rfl rfl (by kernel_rfl) (by kernel_rfl) (by kernel_rfl) (by kernel_rfl) (wanted_some (j := 8) (d := 129) (bb := false) rfl rfl rfl (by simp [eval_put_ne, eval_put_eq, size_put, hts]) (by simp [size_put, hts])) (fun _ _ _ h => h) (fun U hU => r_move (by simp [eval_put_ne, eval_put_eq, size_put, hts, e18])) ?_
        refine tkS 12 133 (v := .string tx) hsv3 rfl rfl (by kernel_rfl) (by kernel_rfl) (by kernel_rfl) (by kernel_rfl) (wanted_some (j := 8) (d := 129) (bb := false) rfl rfl rfl (by simp [eval_put_ne, eval_put_eq, size_put, hts]) (by simp [size_put, hts])) (fun _ _ _ h => h) (fun U hU => r_ld9 (by simp [eval_put_ne, eval_put_eq, size_put, hts, e11]) (hU.blk hEv3 (fun h => h))) ?_
        refine tkS 13 134 (v := .string ty) hsv3 rfl rfl (by kernel_rfl) (by kernel_rfl) (by kernel_rfl) (by kernel_rfl) (wanted_some (j := 8) (d := 129) (bb := false) rfl rfl rfl (by simp [eval_put_ne, eval_put_eq, size_put, hts]) (by simp [size_put, hts])) (fun _ _ _ h => h) (fun U hU => r_move (by simp [eval_put_ne, eval_put_eq, size_put, hts, e16])) ?_
        refine tkS 14 135 (v := .bool r) hsv3 rfl rfl (by kernel_rfl) (by kernel_rfl) (by kernel_rfl) (by kernel_rfl) (wanted_some (j := 8) (d := 129) (bb := false) rfl rfl rfl (by simp [eval_put_ne, eval_put_eq, size_put, hts]) (by simp [size_put, hts])) (fun _ _ _ h => h) (fun U hU => r_eq9r (p := tx) (q := ty) (by simp [eval_put_ne, eval_put_eq, size_put, hts]) (by simp [eval_put_ne, eval_put_eq, size_put, hts]) Hr2.out) ?_
        refine oneCS 11 132 (by kernel_rfl) rfl rfl (wanted_some (j := 8) (d := 129) (bb := false) rfl rfl rfl (by simp [eval_put_ne, eval_put_eq, size_put, hts]) (by simp [size_put, hts])) (r_call2 Try.func13 (by kernel_rfl) rfl rfl (by simp [eval_put_ne, eval_put_eq, size_put, hts]) (by simp [eval_put_ne, eval_put_eq, size_put, hts])) (same_at v3 _ _ m m X Y hDv3 hYv3 r (by simpa using Hr1.out)) ?_
        rintro e v4 ⟨rfl, kv4⟩
        refine ⟨_, rfl, kv4, ?_⟩
        refine raiseM (S' := Kept (fun _ => False) v4) (fun U hU => kv4.trans hU (fun _ _ h => h)) ?_
        have hsv4 : (Kept (fun _ => False) v4) _ := Kept.refl _ _
        have hDv4 := hDv3.kept kv4
        have hYv4 := hYv3.kept kv4
        have hEv4 := kv4.blk hEv3 (fun h => h)
        have hKv4 := hKv3.trans kv4 (fun _ _ h => h)
        refine tkS 15 136 (v := .bool false) hsv4 rfl rfl (by kernel_rfl) (by kernel_rfl) (by kernel_rfl) (by kernel_rfl) (wanted_some (j := 8) (d := 129) (bb := false) rfl rfl rfl (by simp [eval_put_ne, eval_put_eq, size_put, hts]) (by simp [size_put, hts])) (fun _ _ _ h => h) (fun U hU => r_neq4r (r := r) (by simp [eval_put_ne, eval_put_eq, size_put, hts]) (by simp [eval_put_ne, eval_put_eq, size_put, hts])) ?_
        refine tkS 16 137 (v := .bool false) hsv4 rfl rfl (by kernel_rfl) (by kernel_rfl) (by kernel_rfl) (by kernel_rfl) (wanted_none rfl) (fun _ _ _ h => h) (fun U hU => r_pickF (by simp [eval_put_ne, eval_put_eq, size_put, hts]) (by simp [eval_put_ne, eval_put_eq, size_put, hts])) ?_
        refine tkS 17 138 (v := .bool false) hsv4 rfl rfl (by kernel_rfl) (by kernel_rfl) (by kernel_rfl) (by kernel_rfl) (wanted_none rfl) (fun _ _ _ h => h) (fun U hU => r_move (by simp [eval_put_ne, eval_put_eq, size_put, hts])) ?_
        refine tkS 18 139 (v := .pointer pn) hsv4 rfl rfl (by kernel_rfl) (by kernel_rfl) (by kernel_rfl) (by kernel_rfl) (wanted_some (j := 17) (d := 138) (bb := false) rfl rfl rfl (by simp [eval_put_ne, eval_put_eq, size_put, hts]) (by simp [size_put, hts])) (fun _ _ _ h => h) (fun U hU => r_move (by simp [eval_put_ne, eval_put_eq, size_put, hts, e18])) ?_
        refine tkS 20 141 (v := .string ty) hsv4 rfl rfl (by kernel_rfl) (by kernel_rfl) (by kernel_rfl) (by kernel_rfl) (wanted_some (j := 17) (d := 138) (bb := false) rfl rfl rfl (by simp [eval_put_ne, eval_put_eq, size_put, hts]) (by simp [size_put, hts])) (fun _ _ _ h => h) (fun U hU => r_move (by simp [eval_put_ne, eval_put_eq, size_put, hts, e16])) ?_
        refine oneCS 19 140 (by kernel_rfl) rfl rfl (wanted_some (j := 17) (d := 138) (bb := false) rfl rfl rfl (by simp [eval_put_ne, eval_put_eq, size_put, hts]) (by simp [size_put, hts])) (r_call2 Try.func17 (by kernel_rfl) rfl rfl (by simp [eval_put_ne, eval_put_eq, size_put, hts]) rfl) (diff_at v4 _ _ m 0 Y [] hYv4 (DkAt.nil _)) ?_
        rintro e v5 ⟨q3, rfl, g3⟩
        have kv5 := g3.2.2
        refine ⟨_, rfl, kv5, ?_⟩
        refine raiseM (S' := Kept (fun _ => False) v5) (fun U hU => kv5.trans hU (fun _ _ h => h)) ?_
        have hsv5 : (Kept (fun _ => False) v5) _ := Kept.refl _ _
        have hDv5 := hDv4.kept kv5
        have hYv5 := hYv4.kept kv5
        have hEv5 := kv5.blk hEv4 (fun h => h)
        have hKv5 := hKv4.trans kv5 (fun _ _ h => h)
        have gs3 := g3.src
        refine oneCS 21 142 (by kernel_rfl) rfl rfl (wanted_some (j := 17) (d := 138) (bb := false) rfl rfl rfl (by simp [eval_put_ne, eval_put_eq, size_put, hts]) (by simp [size_put, hts])) (r_call2 Try.func18 (by kernel_rfl) rfl rfl (by simp [eval_put_ne, eval_put_eq, size_put, hts]) rfl) (HRN.out v5) ?_
        rintro e v6 ⟨q4, rfl, g4⟩
        have kv6 := g4.2.2
        refine ⟨_, rfl, kv6, ?_⟩
        refine raiseM (S' := Kept (fun _ => False) v6) (fun U hU => kv6.trans hU (fun _ _ h => h)) ?_
        have hsv6 : (Kept (fun _ => False) v6) _ := Kept.refl _ _
        have hDv6 := hDv5.kept kv6
        have hYv6 := hYv5.kept kv6
        have hEv6 := kv6.blk hEv5 (fun h => h)
        have hKv6 := hKv5.trans kv6 (fun _ _ h => h)
        have gs4 := g4.src
        have gs3 := gs3.kept kv6 (fun _ _ h => h)
        refine oneCS 22 143 (by kernel_rfl) rfl rfl (wanted_some (j := 17) (d := 138) (bb := false) rfl rfl rfl (by simp [eval_put_ne, eval_put_eq, size_put, hts]) (by simp [size_put, hts])) (r_call2 Try.func16 (by kernel_rfl) rfl rfl (by simp [eval_put_ne, eval_put_eq, size_put, hts]) (by simp [eval_put_ne, eval_put_eq, size_put, hts])) (isame_at v6 _ _ (diffB m Y 0 []) (diffB m Y 0 []) gs3 gs4 ⟨HLD.out.2, HLD.out.2⟩ true (by simp)) ?_
        rintro e v7 ⟨rfl, kv7⟩
        refine ⟨_, rfl, kv7, ?_⟩
        refine raiseM (S' := Kept (fun _ => False) v7) (fun U hU => kv7.trans hU (fun _ _ h => h)) ?_
        have hsv7 : (Kept (fun _ => False) v7) _ := Kept.refl _ _
        have hDv7 := hDv6.kept kv7
        have hYv7 := hYv6.kept kv7
        have hEv7 := kv7.blk hEv6 (fun h => h)
        have hKv7 := hKv6.trans kv7 (fun _ _ h => h)
        refine tkS 23 144 (v := .bool false) hsv7 rfl rfl (by kernel_rfl) (by kernel_rfl) (by kernel_rfl) (by kernel_rfl) (wanted_some (j := 17) (d := 138) (bb := false) rfl rfl rfl (by simp [eval_put_ne, eval_put_eq, size_put, hts]) (by simp [size_put, hts])) (fun _ _ _ h => h) (fun U hU => r_not (b := true) (by simp [eval_put_ne, eval_put_eq, size_put, hts])) ?_
        refine tkS 24 145 (v := .bool false) hsv7 rfl rfl (by kernel_rfl) (by kernel_rfl) (by kernel_rfl) (by kernel_rfl) (wanted_none rfl) (fun _ _ _ h => h) (fun U hU => r_pickF (by simp [eval_put_ne, eval_put_eq, size_put, hts]) (by simp [eval_put_ne, eval_put_eq, size_put, hts])) ?_
        refine doneS (by kernel_rfl) ?_
        rw [hfr.out]
        clear hfr e5 e11 e16 e18 hts
        simp only [put_lit, put_none, List.set_cons_succ, List.set_cons_zero]
        have KR := hide hKv7
        have DY7 := hide (DY.out.kept KR.out)
        have DZ7 := hide (DZ.out.kept KR.out)
        have HEx7 := hide (KR.out.blk HEx.out (fun h => h))
        have K7 := hide (Kb.out.trans KR.out (fun _ _ h => h))
        go_wp2_with (first | (with_reducible refine stop_store 9 ?_) | fail)
        refine hide ?_
        refine aw_store1 (v := .string ty) Hi9.out Hs9.out rfl rfl rfl rfl HEx7.out (by simp) ?_
        intro w8 hw8 hk8 hz8
        have hE8 : Blk w8 ex [.string ty] 9 := hw8
        have HEx8 := hide hE8
        have DY8 := hide (DY7.out.keptB HEx7.out (by decide) (by decide) hk8)
        have DZ8 := hide (DZ7.out.keptB HEx7.out (by decide) (by decide) hk8)
        have K8 := hide (K7.out.trans hk8 (fun i hi h => by have := HNex.out; omega))
        clear hw8 hk8 hz8 hE8 DY7 DZ7 HEx7 K7 KR Kb DX DZ DY HEx HRD HRN HLD Hr1 Hr2
        try simp only [put_lit, put_none, List.set_cons_succ, List.set_cons_zero]
        go_wp2
        have hm64 : (m : Int) ≤ 64 := by have := Hm.out; omega
        go_loopw [20] (fun i wr => ∃ j : Int, i = .int .i64 j ∧ -1 ≤ j ∧ j ≤ m + 1 ∧ Hid (Kept (fun _ => False) w8 wr))
          (fun i _ => (m + 1 - intOf i).toNat)
        case atStart => exact ⟨-1, rfl, by omega, by omega, hide (Kept.refl _ _)⟩
        case round =>
          obtain ⟨j, rfl, hj1, hj2, K9⟩ := hrel
          have hjw : IntKind.i64.wrap (j + 1) = j + 1 := by rw [IntKind.wrap_i64]; omega
          by_cases hjm : j ≤ m
          · have DY9 := hide (DY8.out.kept K9.out)
            have HEx9 := hide (K9.out.blk HEx8.out (fun h => h))
            by_cases hin : 0 ≤ j ∧ j < m
            · obtain ⟨q, rfl⟩ : ∃ q : Nat, j = q := ⟨j.toNat, by omega⟩
              have hqm : q < m := by omega
              have HG := hide (get_ok wr _ m Y DY9.out q hqm)
              have HRG := hide (fun wx => rget_at wx Y m DY9.out.len Hm.out.2 q true (by simpa using hin))
              have e1 : rgetB Y m q = getB Y q := by unfold rgetB; rw [if_pos (by omega), Int.toNat_natCast]
              obtain ⟨tb, htb⟩ : ∃ t, strN (getB Y q) = t := ⟨_, rfl⟩
              have HTb := hide htb
              simp only [e1, htb, HTy.out] at HRG
              clear e1 htb
              go_wp2_with fail
              refine HG.out.mono ?_
              rintro e wc ⟨s, rfl, hs, hkc⟩
              have HSc := hide hs.src
              have Kc := hide (K9.out.trans hkc (fun _ _ h => h))
              have d0 : wc.cell? ⟨ex, 0, none⟩ = some (.string ty) := (hkc.blk HEx9.out (fun h => h)).cell 0
              clear hs hkc HG
              go_wp2_with fail
              refine (HRG.out wc).mono ?_
              rintro e wd ⟨rfl, rfl⟩
              go_wp2_with (first | (with_reducible refine stop_convertG 28 9 ?_) | fail)
              refine hide ?_
              refine wpList_runG rfl (r_strT rfl HSc.out HTb.out) ?_
              try simp only [put_lit, put_none, List.set_cons_succ, List.set_cons_zero]
              clear d0
              go_wp2
              go_roundw
              case rel => exact ⟨q + 1, by simp, by omega, by omega, Kc⟩
              case measure => simp [intOf]; omega
            · have HG := hide (get_no wr _ m Y DY9.out Hm.out.1 j hin)
              have HRG := hide (fun wx => rget_at wx Y m DY9.out.len Hm.out.2 j false (by simp; omega))
              have e1 : rgetB Y m j = [] := by unfold rgetB; rw [if_neg hin]
              obtain ⟨tb, htb⟩ : ∃ t, strN [] = t := ⟨_, rfl⟩
              have HTb := hide htb
              simp only [e1, htb, HTy.out] at HRG
              have d0 : wr.cell? ⟨ex, 0, none⟩ = some (.string ty) := HEx9.out.cell 0
              clear e1 htb
              go_wp2_with fail
              refine HG.out.mono ?_
              rintro e wc ⟨rfl, rfl⟩
              go_wp2_with fail
              refine (HRG.out wr).mono ?_
              rintro e wd ⟨rfl, rfl⟩
              go_wp2_with (first | (with_reducible refine stop_convertG 28 9 ?_) | fail)
              refine hide ?_
              refine wpList_runG rfl (r_strT rfl (Src.nil wr) HTb.out) ?_
              try simp only [put_lit, put_none, List.set_cons_succ, List.set_cons_zero]
              clear d0
              go_wp2
              go_roundw
              case rel => exact ⟨j + 1, by simp, by omega, by omega, K9⟩
              case measure => simp [intOf]; omega
          · go_wp2
            go_roundw
            case rel => exact ⟨k + 1, pn, Y, rfl, by simp, by omega, hide (DY8.out.kept K9.out), hide (DZ8.out.kept K9.out), hide (by rw [HTy.out]; exact K9.out.blk HEx8.out (fun h => h)), hide (K8.out.trans K9.out (fun _ _ h => h))⟩
            case measure => simp [intOf]; omega
      · have hn := hwi.2 (by rw [HEE.out]; exact he0)
        subst hn
        have he2 : (ee != 0) = true := by simpa using he0
        clear hwi hkb Ka DXa DZa HExa HWSa HS
        go_wp2
        go_roundw
        case rel => exact ⟨k + 1, pd, X, rfl, by simp, by omega, DX, DZ, hide (by rw [HTx.out]; exact HEx.out), Kb⟩
        case measure => simp [intOf]; omega
    · obtain rfl : k = len := by omega
      obtain ⟨tx, htx⟩ : ∃ t, strN X = t := ⟨_, rfl⟩
      have HTx := hide htx
      rw [htx] at HEx
      clear htx
      go_wp2_with (first
        | ((with_reducible refine aw_alloc (t := 3) (dst := some 25) Hi3.out Hz3.out ?_); intro wa hwa hka hza; have HWa := hide hwa; have HKa := hide hka; clear hza hwa hka)
        | (with_reducible refine stop_store 3 ?_)
        | fail)
      refine hide ?_
      refine aw_store1 (v := .int .i64 0) Hi3.out Hs3.out rfl rfl rfl rfl HWa.out (by simp [Value.cells]) ?_
      intro wb hwb hkb hzb
      have hN : Blk wb wr.heap.size [.int .i64 0] 3 := by simpa [Value.cells] using hwb
      obtain ⟨en, hen⟩ : ∃ en, en = wr.heap.size := ⟨_, rfl⟩
      have HKab : Hid (Kept (fun _ => False) wr wb) := hide (HKa.out.trans hkb (fun i hi h => by omega))
      have HNen : Hid (w.heap.size ≤ en) := hide (by rw [hen]; exact Kr.out.size)
      rw [← hen] at hN ⊢
      have HEn0 := hide hN
      have Kb := hide (Kr.out.trans HKab.out (fun _ _ h => h))
      have DXb := hide (DX.out.kept HKab.out)
      have DZb := hide (DZ.out.kept HKab.out)
      have HExb := hide (HKab.out.blk HEx.out (fun h => h))
      clear hwb hkb hzb hN hen HKab HWa HKa Kr DX DZ HEx
      try simp only [put_lit, put_none, List.set_cons_succ, List.set_cons_zero]
      go_wp2_with fail
      refine (all_at wb _ m X DXb.out).mono ?_
      rintro e wc ⟨e0, rfl, he0, hle0, hkc⟩
      have Kc := hide (Kb.out.trans hkc (fun _ _ h => h))
      have DXc := hide (DXb.out.kept hkc)
      have DZc := hide (DZb.out.kept hkc)
      have HExc := hide (hkc.blk HExb.out (fun h => h))
      have HEnc := hide (hkc.blk HEn0.out (fun h => h))
      have HE0 := hide he0
      obtain ⟨FX, hFX⟩ := DXc.out.l
      have hseq := all1_at hFX he0
      have hcall := hseq (.func (.func 21) #[] #[.pointer (some ⟨ex, 0, none⟩), .pointer (some ⟨en, 0, none⟩)]) (TJ X ex en) (TX X ex en) (fun k => k = en) ⟨_, _, rfl⟩ (TJ.stab HExc.out.lt) (TX.stab HExc.out.lt) (fun k hk => by
        subst hk
        refine ⟨?_, fun h => h⟩
        rintro (h | h)
        · subst h; exact he0.ne HEnc.out (by decide) rfl
        · exact hFX.ne HEnc.out (by decide) (by decide) h) (take_takes X m ex en _ _ DXc.out.len DXc.out.lt Hm.out.2) ⟨by rw [HTx.out]; exact HExc.out, HEnc.out, rfl, by decide⟩
      have hc2 : Calls Try.prog 26 #[.func (.func 21) #[] #[.pointer (some ⟨ex, 0, none⟩), .pointer (some ⟨en, 0, none⟩)], .pointer (some ⟨e0, 0, none⟩)] wc (fun e W' => (∃ v, e = .returned v) ∧ Blk W' ex [.string tx] 9 ∧ Blk W' en [.int .i64 (min 3 (m : Int))] 3 ∧ Kept (fun k => k = en) wc W') := by
        rcases hcall with ⟨g, lb, he, eg, hc⟩ | ⟨l, he, _⟩
        case inr => cases he
        cases he
        refine hc.mono ?_
        rintro e W' ⟨hv, b, hk, hcase⟩
        refine ⟨hv, ?_⟩
        have hk' : Kept (fun k => k = en) wc W' := hk.mono (fun k _ h => h.elim id (fun h => h.elim))
        rcases hcase with ⟨_, F', ⟨h1, h2, _, h4⟩, _⟩ | ⟨_, pre, F', ⟨post, hp⟩, ⟨h1, h2, _, h4⟩, _⟩
        · rw [HTx.out] at h1
          rw [List.length_range] at h2 h4
          exact ⟨h1, by rw [show min 3 (m : Int) = m by omega]; exact h2, hk'⟩
        · rw [HTx.out] at h1
          rw [h4] at h2
          have := congrArg List.length hp
          simp at this
          exact ⟨h1, by rw [show min 3 (m : Int) = 3 by omega]; exact h2, hk'⟩
      have HC2 := hide hc2
      clear he0 hle0 hkc hFX hseq hcall hc2 Kb DXb DZb HExb HEn0
      go_wp2_with fail
      refine HC2.out.mono ?_
      rintro e wd ⟨⟨vv, rfl⟩, hex, hen, hkd⟩
      have HEx := hide hex
      have HEn := hide hen
      have DX := hide (DXc.out.keptB HEnc.out (by decide) (by decide) hkd)
      have DZ := hide (DZc.out.keptB HEnc.out (by decide) (by decide) hkd)
      have Kd := hide (Kc.out.trans hkd (fun i hi h => by have := HNen.out; omega))
      clear hex hen hkd Kc DXc DZc HExc HEnc HE0 HC2
      go_wp2_with fail
      refine hold_frame (p := fun fr => Code.wp Try.prog _ _ fr _) ?_
      intro fr hfr
      have e0 : fr.eval (.tmp 0) = .int .i64 m := by rw [hfr.out]; rfl
      have e5 : fr.eval (.tmp 5) = .pointer pd := by rw [hfr.out]; rfl
      have e11 : fr.eval (.tmp 11) = .pointer (some ⟨ex, 0, none⟩) := by rw [hfr.out]; rfl
      have e12 : fr.eval (.tmp 12) = .pointer p0 := by rw [hfr.out]; rfl
      have e13 : fr.eval (.tmp 13) = .string tz := by rw [hfr.out]; rfl
      have e25 : fr.eval (.tmp 25) = .pointer (some ⟨en, 0, none⟩) := by rw [hfr.out]; rfl
      have hts : fr.tmps.size = 212 := by rw [hfr.out]; rfl
      refine region_S0 99 Try.mixed ?_
      intro w0 hkw hheap
      have hD0 := DX.out.kept hkw
      have hZ0 := DZ.out.kept hkw
      have hE0 := hkw.blk HEx.out (fun h => h)
      have hN0 := hkw.blk HEn.out (fun h => h)
      have hS0 : Kept (fun _ => False) w0 w0 := Kept.refl (fun _ => False) w0
      refine ⟨Kept (fun _ => False) w0, ?_⟩
      refine tkS 0 188 (v := .int .i64 (min 3 (m : Int))) hS0 rfl rfl (by kernel_rfl) (by kernel_rfl) (by kernel_rfl) (by kernel_rfl) (wanted_none rfl) (fun _ _ _ h => h) (fun U hU => r_ld3b (by simp [eval_put_ne, eval_put_eq, size_put, hts, e25]) (hU.blk hN0 (fun h => h))) ?_
      refine tkS 1 189 (v := .int .i64 m) hS0 rfl rfl (by kernel_rfl) (by kernel_rfl) (by kernel_rfl) (by kernel_rfl) (wanted_none rfl) (fun _ _ _ h => h) (fun U hU => r_move (by simp [eval_put_ne, eval_put_eq, size_put, hts, e0])) ?_
      refine tkS 2 190 (v := .int .i64 (min 3 (m : Int))) hS0 rfl rfl (by kernel_rfl) (by kernel_rfl) (by kernel_rfl) (by kernel_rfl) (wanted_none rfl) (fun _ _ _ h => h) (fun U hU => r_min3 rfl (by simp [eval_put_ne, eval_put_eq, size_put, hts]) rfl) ?_
      refine tkS 3 191 (v := .bool true) hS0 rfl rfl (by kernel_rfl) (by kernel_rfl) (by kernel_rfl) (by kernel_rfl) (wanted_none rfl) (fun _ _ _ h => h) (fun U hU => r_eq3t (p := min 3 (m : Int)) (by simp [eval_put_ne, eval_put_eq, size_put, hts]) (by simp [eval_put_ne, eval_put_eq, size_put, hts])) ?_
      refine tkS 4 192 (v := .bool true) hS0 rfl rfl (by kernel_rfl) (by kernel_rfl) (by kernel_rfl) (by kernel_rfl) (wanted_none rfl) (fun _ _ _ h => h) (fun U hU => r_move (by simp [eval_put_ne, eval_put_eq, size_put, hts])) ?_
      refine tkS 5 193 (v := .pointer pd) hS0 rfl rfl (by kernel_rfl) (by kernel_rfl) (by kernel_rfl) (by kernel_rfl) (wanted_some (j := 4) (d := 192) (bb := true) rfl rfl rfl (by simp [eval_put_ne, eval_put_eq, size_put, hts]) (by simp [size_put, hts])) (fun _ _ _ h => h) (fun U hU => r_move (by simp [eval_put_ne, eval_put_eq, size_put, hts, e5])) ?_
      refine tkS 8 196 (v := .string tx) hS0 rfl rfl (by kernel_rfl) (by kernel_rfl) (by kernel_rfl) (by kernel_rfl) (wanted_some (j := 4) (d := 192) (bb := true) rfl rfl rfl (by simp [eval_put_ne, eval_put_eq, size_put, hts]) (by simp [size_put, hts])) (fun _ _ _ h => h) (fun U hU => r_ld9 (by simp [eval_put_ne, eval_put_eq, size_put, hts, e11]) (hU.blk hE0 (fun h => h))) ?_
      refine oneCS 6 194 (by kernel_rfl) rfl rfl (wanted_some (j := 4) (d := 192) (bb := true) rfl rfl rfl (by simp [eval_put_ne, eval_put_eq, size_put, hts]) (by simp [size_put, hts])) (r_call1 Try.func12 (by kernel_rfl) rfl rfl (by simp [eval_put_ne, eval_put_eq, size_put, hts])) (bytes_at w0 _ m X hD0) ?_
      rintro e v1 ⟨s1, rfl, ho1, kv1⟩
      refine ⟨_, rfl, kv1, ?_⟩
      refine raiseM (S' := Kept (fun _ => False) v1) (fun U hU => kv1.trans hU (fun _ _ h => h)) ?_
      have hsv1 : (Kept (fun _ => False) v1) _ := Kept.refl _ _
      have hc1 := fun (U : World) (hU : Kept (fun _ => False) v1 U) => (ho1.kept hU).src
      have hE1 := kv1.blk hE0 (fun h => h)
      refine tkS 7 195 (v := .string tx) hsv1 rfl rfl (by kernel_rfl) (by kernel_rfl) (by kernel_rfl) (by kernel_rfl) (wanted_some (j := 4) (d := 192) (bb := true) rfl rfl rfl (by simp [eval_put_ne, eval_put_eq, size_put, hts]) (by simp [size_put, hts])) (fun _ _ _ h => h) (fun U hU => r_strT (by simp [eval_put_ne, eval_put_eq, size_put, hts]) (hc1 U hU) HTx.out) ?_
      refine tkS 9 197 (v := .bool true) hsv1 rfl rfl (by kernel_rfl) (by kernel_rfl) (by kernel_rfl) (by kernel_rfl) (wanted_some (j := 4) (d := 192) (bb := true) rfl rfl rfl (by simp [eval_put_ne, eval_put_eq, size_put, hts]) (by simp [size_put, hts])) (fun _ _ _ h => h) (fun U hU => r_eq9t (p := tx) (by simp [eval_put_ne, eval_put_eq, size_put, hts]) (by simp [eval_put_ne, eval_put_eq, size_put, hts])) ?_
      refine tkS 10 198 (v := .bool true) hsv1 rfl rfl (by kernel_rfl) (by kernel_rfl) (by kernel_rfl) (by kernel_rfl) (wanted_none rfl) (fun _ _ _ h => h) (fun U hU => r_pick (by simp [eval_put_ne, eval_put_eq, size_put, hts]) (by simp [eval_put_ne, eval_put_eq, size_put, hts])) ?_
      refine tkS 11 199 (v := .bool true) hsv1 rfl rfl (by kernel_rfl) (by kernel_rfl) (by kernel_rfl) (by kernel_rfl) (wanted_none rfl) (fun _ _ _ h => h) (fun U hU => r_move (by simp [eval_put_ne, eval_put_eq, size_put, hts])) ?_
      refine tkS 12 200 (v := .pointer p0) hsv1 rfl rfl (by kernel_rfl) (by kernel_rfl) (by kernel_rfl) (by kernel_rfl) (wanted_some (j := 11) (d := 199) (bb := true) rfl rfl rfl (by simp [eval_put_ne, eval_put_eq, size_put, hts]) (by simp [size_put, hts])) (fun _ _ _ h => h) (fun U hU => r_move (by simp [eval_put_ne, eval_put_eq, size_put, hts, e12])) ?_
      refine tkS 15 203 (v := .string tz) hsv1 rfl rfl (by kernel_rfl) (by kernel_rfl) (by kernel_rfl) (by kernel_rfl) (wanted_some (j := 11) (d := 199) (bb := true) rfl rfl rfl (by simp [eval_put_ne, eval_put_eq, size_put, hts]) (by simp [size_put, hts])) (fun _ _ _ h => h) (fun U hU => r_move (by simp [eval_put_ne, eval_put_eq, size_put, hts, e13])) ?_
      have hZ1 := hZ0.kept kv1
      refine oneCS 13 201 (by kernel_rfl) rfl rfl (wanted_some (j := 11) (d := 199) (bb := true) rfl rfl rfl (by simp [eval_put_ne, eval_put_eq, size_put, hts]) (by simp [size_put, hts])) (r_call1 Try.func12 (by kernel_rfl) rfl rfl (by simp [eval_put_ne, eval_put_eq, size_put, hts])) (bytes_at v1 _ m Z hZ1) ?_
      rintro e v2 ⟨s2, rfl, ho2, kv2⟩
      refine ⟨_, rfl, kv2, ?_⟩
      refine raiseM (S' := Kept (fun _ => False) v2) (fun U hU => kv2.trans hU (fun _ _ h => h)) ?_
      have hsv2 : (Kept (fun _ => False) v2) _ := Kept.refl _ _
      have hc2 := fun (U : World) (hU : Kept (fun _ => False) v2 U) => (ho2.kept hU).src
      refine tkS 14 202 (v := .string tz) hsv2 rfl rfl (by kernel_rfl) (by kernel_rfl) (by kernel_rfl) (by kernel_rfl) (wanted_some (j := 11) (d := 199) (bb := true) rfl rfl rfl (by simp [eval_put_ne, eval_put_eq, size_put, hts]) (by simp [size_put, hts])) (fun _ _ _ h => h) (fun U hU => r_strT (by simp [eval_put_ne, eval_put_eq, size_put, hts]) (hc2 U hU) HTz.out) ?_
      refine tkS 16 204 (v := .bool true) hsv2 rfl rfl (by kernel_rfl) (by kernel_rfl) (by kernel_rfl) (by kernel_rfl) (wanted_some (j := 11) (d := 199) (bb := true) rfl rfl rfl (by simp [eval_put_ne, eval_put_eq, size_put, hts]) (by simp [size_put, hts])) (fun _ _ _ h => h) (fun U hU => r_eq9t (p := tz) (by simp [eval_put_ne, eval_put_eq, size_put, hts]) (by simp [eval_put_ne, eval_put_eq, size_put, hts])) ?_
      refine tkS 17 205 (v := .bool true) hsv2 rfl rfl (by kernel_rfl) (by kernel_rfl) (by kernel_rfl) (by kernel_rfl) (wanted_none rfl) (fun _ _ _ h => h) (fun U hU => r_pick (by simp [eval_put_ne, eval_put_eq, size_put, hts]) (by simp [eval_put_ne, eval_put_eq, size_put, hts])) ?_
      refine tkS 18 206 (v := .bool true) hsv2 rfl rfl (by kernel_rfl) (by kernel_rfl) (by kernel_rfl) (by kernel_rfl) (wanted_none rfl) (fun _ _ _ h => h) (fun U hU => r_move (by simp [eval_put_ne, eval_put_eq, size_put, hts])) ?_
      refine tkS 19 207 (v := .pointer pd) hsv2 rfl rfl (by kernel_rfl) (by kernel_rfl) (by kernel_rfl) (by kernel_rfl) (wanted_some (j := 18) (d := 206) (bb := true) rfl rfl rfl (by simp [eval_put_ne, eval_put_eq, size_put, hts]) (by simp [size_put, hts])) (fun _ _ _ h => h) (fun U hU => r_move (by simp [eval_put_ne, eval_put_eq, size_put, hts, e5])) ?_
      refine tkS 21 209 (v := .int .i64 m) hsv2 rfl rfl (by kernel_rfl) (by kernel_rfl) (by kernel_rfl) (by kernel_rfl) (wanted_some (j := 18) (d := 206) (bb := true) rfl rfl rfl (by simp [eval_put_ne, eval_put_eq, size_put, hts]) (by simp [size_put, hts])) (fun _ _ _ h => h) (fun U hU => r_move (by simp [eval_put_ne, eval_put_eq, size_put, hts, e0])) ?_
      have hD2 := (hD0.kept kv1).kept kv2
      refine oneCS 20 208 (by kernel_rfl) rfl rfl (wanted_some (j := 18) (d := 206) (bb := true) rfl rfl rfl (by simp [eval_put_ne, eval_put_eq, size_put, hts]) (by simp [size_put, hts])) (r_call1 Try.func11 (by kernel_rfl) rfl rfl (by simp [eval_put_ne, eval_put_eq, size_put, hts])) (blocks_at v2 _ m X hD2) ?_
      rintro e v3 ⟨rfl, rfl⟩
      refine ⟨_, rfl, hsv2, ?_⟩
      refine tkS 22 210 (v := .bool true) hsv2 rfl rfl (by kernel_rfl) (by kernel_rfl) (by kernel_rfl) (by kernel_rfl) (wanted_some (j := 18) (d := 206) (bb := true) rfl rfl rfl (by simp [eval_put_ne, eval_put_eq, size_put, hts]) (by simp [size_put, hts])) (fun _ _ _ h => h) (fun U hU => r_eq3t (p := (m : Int)) (by simp [eval_put_ne, eval_put_eq, size_put, hts]) (by simp [eval_put_ne, eval_put_eq, size_put, hts])) ?_
      refine tkS 23 211 (v := .bool true) hsv2 rfl rfl (by kernel_rfl) (by kernel_rfl) (by kernel_rfl) (by kernel_rfl) (wanted_none rfl) (fun _ _ _ h => h) (fun U hU => r_pick (by simp [eval_put_ne, eval_put_eq, size_put, hts]) (by simp [eval_put_ne, eval_put_eq, size_put, hts])) ?_
      refine tkS 24 4 (v := .bool true) hsv2 rfl rfl (by kernel_rfl) (by kernel_rfl) (by kernel_rfl) (by kernel_rfl) (wanted_none rfl) (fun _ _ _ h => h) (fun U hU => r_assign (by simp [eval_put_ne, eval_put_eq, size_put, hts])) ?_
      refine doneS (by kernel_rfl) ?_
      rw [hfr.out]
      clear hfr e0 e5 e11 e12 e13 e25 hts
      simp only [put_lit, put_none, List.set_cons_succ, List.set_cons_zero]
      have KR := hide ((hkw.trans kv1 (fun _ _ h => h)).trans kv2 (fun _ _ h => h))
      go_wp2
      go_ret
      exact ⟨rfl, Kd.out.trans KR.out (fun _ _ h => h)⟩
end Go.Proofs.Ytlpjhgcafkdhdaa
