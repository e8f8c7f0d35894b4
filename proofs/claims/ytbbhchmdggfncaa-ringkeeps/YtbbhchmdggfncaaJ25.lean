/-
  stands, of package ring: the record that stands at a place.
-/
import Derived.Test.YtbbhchmdggfncaaJ16
import Derived.Test.YtbbhchmdggfncaaJ24
namespace Go.Proofs.Ytbbhchmdggfncaa
open Go.RowKit Go.Shelf
set_option linter.unusedSimpArgs false
set_option linter.unusedVariables false
set_option maxRecDepth 100000

abbrev enAgg (l e n k t m : Int) (s : Sl) : Value := .agg #[.int .i64 l, .int .i64 e, .int .i64 n, .int .i64 k, .int .i64 t, .int .i64 m, .slice s.a s.n s.c]
section
variable {ops : Array Oper} {Q : Exit → Act → World → Prop} {a : Act} {w : World} {rest : List Oper} {dst : Option Tmp} {ty : TypeId} {pos : String} {aft : Array Edge}
theorem r_build58 {ρ : Operand → Value} {gd : Option (Nat × Bool)} {x y z u : Operand} {l e n k t m : Int} {so : Option Addr} {sn sc : Nat} (hx : ρ x = .int .i64 l) (hy : ρ y = .int .i64 e) (hz : ρ z = .int .i64 n) (hu : ρ u = .agg #[.int .i64 k, .int .i64 t, .int .i64 m, .slice so sn sc]) :
    (execOp ρ ⟨dst, .build 58 #[(0, x), (1, y), (2, z), (3, u)], ty, pos, aft, gd⟩).run Try.prog w = .ok (.value (enAgg l e n k t m ⟨so, sn, sc⟩)) w := by
  have hr := run_build (P := Try.prog) w 58 #[(0, .int .i64 l), (1, .int .i64 e), (2, .int .i64 n), (3, .agg #[.int .i64 k, .int .i64 t, .int .i64 m, .slice so sn sc])] _ (by simpa using built58 l e n k t m so sn sc)
  simp [execOp, hx, hy, hz, hu, hr]
theorem r_build58_0 {ρ : Operand → Value} {gd : Option (Nat × Bool)} : (execOp ρ ⟨dst, .build 58 #[], ty, pos, aft, gd⟩).run Try.prog w = .ok (.value (enAgg 0 0 0 0 0 0 ⟨none, 0, 0⟩)) w := by
  have hr := run_build (P := Try.prog) w 58 #[] _ (by simpa using built58_0)
  simp [execOp, hr]
end
/-- What is told of a place. -/
def StIs (place : Int) (B : List Nat) (l e n : Int) (x : Rv) (ok : Bool) : Prop := (ok = true ∧ l = place ∧ standsN place B = some (e, n, x.rc)) ∨ (ok = false ∧ standsN place B = none)
theorem results_cell58 {P : Program} {fn : Func} {t u : Tmp} {ty : TypeId} {n b : Nat} {L : List Value} {e : TypeId} {tmps : Array Value} {w : World} (h : fn.results = #[.cell t ty, .tmp u]) (ht : aggSize P ty n) (hx : tmps.getD t undef = .pointer (some ⟨b, 0, none⟩)) (hb : Blk w b L e) (hl : L.length = n) :
    (results fn tmps).run P w = .ok (.tuple #[.agg L.toArray, tmps.getD u undef]) w := by
  have hv := run_loadVar (P := P) ht hb hl
  simp only [Array.getD_eq_getD_getElem?] at hx
  simp [results, h, hx, hv, asAddr]

set_option maxHeartbeats 8000000 in
theorem stands_at (w : World) (v : Value) (B : List Nat) (place : Int) (hs : Src w v B) (h64 : 64 ≤ B.length) (hl : B.length ≤ 1000000) (hp : 0 ≤ place ∧ place ≤ 4611686018427387903) :
    Calls Try.prog 49 #[v, .int .i64 place] w fun e w' => ∃ (l ep n : Int) (x : Rv) (ok : Bool), e = .returned (.tuple #[enAgg l ep n x.kd x.tl x.nm x.s, .bool ok]) ∧ RcOwn w.heap.size w' x ∧ StIs place B l ep n x ok ∧ Kept (fun _ => False) w w' := by
  have hsv := hs
  obtain ⟨bo, cap, rfl, hcap, hB, hsrc, -⟩ := hsv
  obtain ⟨g, off, rfl, -⟩ := hsrc (by omega)
  obtain ⟨len, hlen⟩ : ∃ len, len = B.length := ⟨_, rfl⟩
  have HS := hide hs
  rw [← hlen] at HS hcap h64 hl ⊢
  have Hlen := hide hlen
  have HBlt := hide hB
  obtain ⟨i58, hi58, hz58, hs58, hb58⟩ := info_parts Try.info58
  obtain ⟨i37, hi37, hz37, hs37, hb37⟩ := info_parts Try.info37
  obtain ⟨i98, hi98, hz98, hs98, hb98⟩ := info_parts Try.info98
  have Hi58 := hide hi58
  have Hz58 := hide hz58
  have Hi37 := hide hi37
  have Hz37 := hide hz37
  have Hi98 := hide hi98
  have Hz98 := hide hz98
  clear hsrc hB hs hlen hi58 hz58 hs58 hb58 hi37 hz37 hs37 hb37 hi98 hz98 hs98 hb98
  have HP := hide hp
  go_enter Try.func49, Try.ntmps49
  go_wp2_with (first
    | ((with_reducible refine aw_alloc (dst := some 4) Hi58.out Hz58.out ?_); intro w1 hb1 hk1 hz1; have Yz1 := hide hz1; clear hz1)
    | fail)
  obtain ⟨b4, hb4⟩ : ∃ b, b = w.heap.size := ⟨_, rfl⟩
  rw [← hb4] at hb1 ⊢
  have HB1 : Hid (Blk w1 b4 [.int .i64 0, .int .i64 0, .int .i64 0, .int .i64 0, .int .i64 0, .int .i64 0, .slice none 0 0] 58) := hide hb1
  have HK1 := hide hk1
  have Hb4w : Hid (w.heap.size ≤ b4) := hide (by omega)
  clear hb1 hk1 hb4 Yz1
  refine (chunk_at w1 _ rfl).mono ?_
  rintro e w2 ⟨bl, bn, rfl, hbl, hbn, hk2, hl1, hl2⟩
  have HB2 := hide (hk2.blk HB1.out (fun h => h))
  have HK2 := hide (HK1.out.trans hk2 (fun _ _ h => h))
  have HG2 := hide (gather_at w2 place _ _ _ (chunkN B) _ (chunk_ok hbl hbn (HS.out.kept HK2.out) (by rw [← Hlen.out]; exact hl)) ⟨_, _, rfl⟩ hp (fun x hx => by
    simp only [chunkN, List.mem_map] at hx
    obtain ⟨i, _, rfl⟩ := hx
    simp
    omega))
  clear hbl hbn hk2 hl1 hl2 HB1 HK1
  go_wp2_with fail
  refine HG2.out.mono ?_
  rintro e w3 ⟨vb, pre, bb, rfl, hs3, hk3, -, -, -⟩
  have HB3 := hide (hk3.blk HB2.out (fun h => h))
  have HK3 := hide (HK2.out.trans hk3 (fun _ _ h => h))
  obtain ⟨⟨bd, nn, ec⟩, hg⟩ : ∃ r, r = gEnd (gRun (gStart place) (chunkN B)) := ⟨_, rfl⟩
  have hbl3 := gEnd_len (xs := chunkN B) hp
  rw [← hg] at hs3 hbl3 ⊢
  have HG := hide hg
  have HS3 := hide hs3
  have HBd := hide hbl3
  clear hs3 hk3 hbl3 hg HG2 HB2 HK2
  simp only []
  by_cases hec : ec = 0
  · subst hec
    go_wp2_with fail
    refine (rcget_at w3 vb bd HS3.out (by have := HBd.out; omega)).mono ?_
    rintro e w4 ⟨x, e2, rfl, hgx, hk4⟩
    obtain ⟨xk, xt, xm, ⟨xa, xn, xc⟩, xw⟩ := x
    have HX4 := hide (hgx.1.le HK3.out.size)
    have HGX := hide hgx.2
    have HB4 := hide (hk4.blk HB3.out (fun h => h))
    have HK4 := hide (HK3.out.trans hk4 (fun _ _ h => h))
    clear hgx hk4 HB3 HK3 HS3
    simp only [Rv.agg, rAgg]
    go_wp2_with (first
      | ((with_reducible refine aw_alloc (dst := some 9) Hi37.out Hz37.out ?_); intro w5 hb5 hk5 hz5; have Yz5 := hide hz5; clear hz5)
      | ((with_reducible refine aw_store (x := .tmp 9) (M := [.int .i64 xk, .int .i64 xt, .int .i64 xm, .slice xa xn xc]) Try.agg37 rfl rfl rfl (by simp [Value.oneCell']) hb5 (by simp [Value.cells]) ?_); intro w6 hb6 hk6 hz6; have Yz6 := hide hz6; clear hz6; rw [put_whole _ _ (by simp [Value.cells])] at hb6; have hk46 : Kept (fun _ => False) w4 w6 := hk5.trans hk6 (fun i hi h => by omega))
      | (with_reducible refine stop_bin .neq ?_)
      | fail)
    refine hide ?_
    obtain ⟨b9, hb9⟩ : ∃ b, b = w4.heap.size := ⟨_, rfl⟩
    rw [← hb9] at hb6 ⊢
    have H96 : Hid (Blk w6 b9 [.int .i64 xk, .int .i64 xt, .int .i64 xm, .slice xa xn xc] 37) := hide hb6
    have HB6 := hide (hk46.blk HB4.out (fun h => h))
    have HX6 := hide (HX4.out.kept hk46)
    have HK6 := hide (HK4.out.trans hk46 (fun _ _ h => h))
    clear hb5 hb6 hk5 hk6 hk46 hb9 Yz5 Yz6 HB4 HX4 HK4
    rcases HGX.out with ⟨hr, rfl⟩ | ⟨hr, rfl, -⟩
    · have HR : Hid (getR bd = some (Rv.rc ⟨xk, xt, xm, ⟨xa, xn, xc⟩, xw⟩)) := hide hr
      clear hr HGX
      go_wp2_with (first | (with_reducible refine stop_slice 22 ?_) | fail)
      refine hide ?_
      refine wpList_run rfl (r_hi22 (a := ⟨g, off, none⟩) (len := len) (cap := cap) 64 (k := .i64) rfl rfl (by omega)) ?_
      have hs64 : Src w6 (.slice (some ⟨g, off, none⟩) 64 cap) (B.take 64) := by
        obtain ⟨bo', cap', e, k1, k2, k3, k4⟩ := HS.out.kept HK6.out
        cases e
        obtain ⟨sb, so, e, hcs⟩ := k3 (by have := Hlen.out; omega)
        cases e
        have h6 : (B.take 64).length = 64 := by rw [List.length_take]; have := Hlen.out; omega
        refine ⟨_, _, by rw [h6], by rw [h6]; omega, fun y hy => k2 y (List.mem_of_mem_take hy), fun _ => ⟨g, off, rfl, ?_⟩, fun h => by cases h⟩
        have := hcs.part 0 64
        rw [List.drop_zero, ← BV_take] at this
        exact this
      have HF := hide (get_at w6 _ (B.take 64) hs64 (by rw [List.length_take]; omega))
      clear hs64
      go_wp2_with fail
      refine HF.out.mono ?_
      rintro e w7 ⟨vf, rfl, hsf, hk7⟩
      have H97 := hide (hk7.blk H96.out (fun h => h))
      have HB7 := hide (hk7.blk HB6.out (fun h => h))
      have HX7 := hide (HX6.out.kept hk7)
      have HK7 := hide (HK6.out.trans hk7 (fun _ _ h => h))
      obtain ⟨⟨fl, fe, fi, fc, fB⟩, hf⟩ : ∃ f, f = (getN (B.take 64)).1 := ⟨_, rfl⟩
      rw [← hf] at hsf ⊢
      have Hf := hide hf
      have hsf2 := hsf
      obtain ⟨fo, fcap, rfl, -⟩ := hsf2
      clear hsf hk7 hf HF H96 HB6 HX6 HK6
      simp only [frAgg, frV]
      go_wp2_with (first
        | ((with_reducible refine aw_alloc (dst := some 10) Hi98.out Hz98.out ?_); intro w8 hb8 hk8 hz8; have Yz8 := hide hz8; clear hz8)
        | ((with_reducible refine aw_store (x := .tmp 10) (M := [.int .i64 fl, .int .i64 fe, .int .i64 fi, .int .i64 fc, .slice fo fB.length fcap]) Try.agg98 rfl rfl rfl (by simp [Value.oneCell']) hb8 (by simp [Value.cells]) ?_); intro w9 hb9 hk9 hz9; have Yz9 := hide hz9; clear hz9; rw [put_whole _ _ (by simp [Value.cells])] at hb9; have hk79 : Kept (fun _ => False) w7 w9 := hk8.trans hk9 (fun i hi h => by omega); have c1 := hb9.cell 1; have H99 := hide (hk79.blk H97.out (fun h => h)); have HB9 := hide (hk79.blk HB7.out (fun h => h)); have HX9 := hide (HX7.out.kept hk79); have HK9 := hide (HK7.out.trans hk79 (fun _ _ h => h)); simp only [List.getElem?_cons_zero, List.getElem?_cons_succ] at c1; clear hb8 hb9 hk8 hk9 hk79 Yz8 Yz9)
        | (with_reducible refine stop_load 37 ?_)
        | fail)
      refine hide ?_
      refine aw_load (off := 0) (M := [.int .i64 xk, .int .i64 xt, .int .i64 xm, .slice xa xn xc]) Try.agg37 rfl H99.out (by simp) (by simp) ?_
      clear c1
      go_wp2_with (first
        | (with_reducible refine stop_build 58 ?_)
        | fail)
      refine hide ?_
      refine wpList_run rfl (r_build58 (l := place) (e := fe) (n := nn) (k := xk) (t := xt) (m := xm) (so := xa) (sn := xn) (sc := xc) rfl rfl rfl rfl) ?_
      go_wp2_with (first
        | ((with_reducible refine aw_store (x := .tmp 4) (M := [.int .i64 place, .int .i64 fe, .int .i64 nn, .int .i64 xk, .int .i64 xt, .int .i64 xm, .slice xa xn xc]) Try.agg58 rfl rfl rfl (by simp [Value.oneCell']) HB9.out (by simp) ?_); intro wz hbz hkz hzz; rw [put_whole _ _ (by simp)] at hbz)
        | fail)
      refine bodyPost_ret (results_cell58 (t := 4) (u := 5) (ty := 58) rfl Try.agg58 rfl hbz rfl) rfl ?_
      have HST : standsN place B = some (fe, nn, Rv.rc ⟨xk, xt, xm, ⟨xa, xn, xc⟩, xw⟩) := by
        unfold standsN
        rw [← HG.out]
        simp only [ne_eq, not_true_eq_false, if_false]
        rw [HR.out, ← Hf.out]
      refine ⟨place, fe, nn, ⟨xk, xt, xm, ⟨xa, xn, xc⟩, xw⟩, true, rfl, ?_, .inl ⟨rfl, rfl, HST⟩, HK9.out.trans hkz (fun i hi h => by have := Hb4w.out; omega)⟩
      exact HX9.out.keptB HB9.out (by decide) (by decide) hkz
    · have HNo : Hid (standsN place B = none) := hide (by
        unfold standsN
        rw [← HG.out]
        simp only [ne_eq, not_true_eq_false, if_false]
        rw [hr])
      clear hr HGX
      go_wp2_with (first
        | (with_reducible refine wpList_run rfl r_build58_0 ?_)
        | ((with_reducible refine aw_store (x := .tmp 4) (M := [.int .i64 0, .int .i64 0, .int .i64 0, .int .i64 0, .int .i64 0, .int .i64 0, .slice none 0 0]) Try.agg58 rfl rfl rfl (by simp [Value.oneCell']) HB6.out (by simp) ?_); intro wz hbz hkz hzz; rw [put_whole _ _ (by simp)] at hbz)
        | fail)
      refine bodyPost_ret (results_cell58 (t := 4) (u := 5) (ty := 58) rfl Try.agg58 rfl hbz rfl) rfl ?_
      exact ⟨0, 0, 0, ⟨0, 0, 0, ⟨none, 0, 0⟩, []⟩, false, rfl, ⟨WsOwn.nil _, NewOf.nil _, by decide⟩, .inr ⟨rfl, HNo.out⟩, HK6.out.trans hkz (fun i hi h => by have := Hb4w.out; omega)⟩
  · have HNo : Hid (standsN place B = none) := hide (by
      unfold standsN
      rw [← HG.out, if_pos hec])
    go_wp2_with (first
      | (with_reducible refine wpList_run rfl r_build58_0 ?_)
      | ((with_reducible refine aw_store (x := .tmp 4) (M := [.int .i64 0, .int .i64 0, .int .i64 0, .int .i64 0, .int .i64 0, .int .i64 0, .slice none 0 0]) Try.agg58 rfl rfl rfl (by simp [Value.oneCell']) HB3.out (by simp) ?_); intro wz hbz hkz hzz; rw [put_whole _ _ (by simp)] at hbz)
      | fail)
    refine bodyPost_ret (results_cell58 (t := 4) (u := 5) (ty := 58) rfl Try.agg58 rfl hbz rfl) rfl ?_
    first | exact ⟨0, 0, 0, ⟨0, 0, 0, ⟨none, 0, 0⟩, []⟩, false, rfl, ⟨WsOwn.nil _, NewOf.nil _, by decide⟩, .inr ⟨rfl, HNo.out⟩, HK3.out.trans hkz (fun i hi h => by have := Hb4w.out; omega)⟩ | exact ⟨0, 0, 0, ⟨0, 0, 0, ⟨none, 0, 0⟩, []⟩, .inl ⟨rfl, ⟨WsOwn.nil _, NewOf.nil _, by decide⟩, .inr ⟨rfl, HNo.out⟩, HK3.out.trans hkz (fun i hi h => by have := Hb4w.out; omega)⟩⟩
end Go.Proofs.Ytbbhchmdggfncaa


/-
  belongs and New, of package ring.
-/
namespace Go.Proofs.Ytbbhchmdggfncaa
open Go.RowKit Go.Shelf
set_option linter.unusedSimpArgs false
set_option linter.unusedVariables false
set_option maxRecDepth 100000

/-- May a record of the kind k and of n sectors be at that sector of a segment of that size? -/
def belN (k : Int) (n sector size : Nat) : Bool := if k = 1 then decide (sector = 0) else if k = 3 then decide (0 < sector) && decide (sector + n < size) else decide (0 < sector)
set_option maxHeartbeats 4000000 in
theorem belongs_at (w : World) (l e k t m : Int) (sl : Sl) (n sector size : Nat) (hn : n ≤ 1000000) (hs : sector ≤ 1000000) (r : Bool) (hr : belN k n sector size = r) :
    Calls Try.prog 50 #[enAgg l e n k t m sl, .int .i64 sector, .int .i64 size] w fun x w' => x = .returned (.bool r) ∧ Kept (fun _ => False) w w' := by
  obtain ⟨sa, sn, sc⟩ := sl
  unfold enAgg
  have hw : IntKind.i64.wrap ((sector : Int) + n) = (sector : Int) + n := by rw [IntKind.wrap_i64]; omega
  unfold belN at hr
  by_cases k1 : k = 1
  · subst k1
    by_cases h0 : sector = 0
    · subst h0
      obtain rfl : r = true := by rw [← hr]; rfl
      clear hr hw
      go_enter Try.func50, Try.ntmps50
      go_wp2_with (first
        | ((with_reducible refine aw_box (t := 58) (v := .agg #[.int .i64 l, .int .i64 e, .int .i64 n, .int .i64 1, .int .i64 t, .int .i64 m, .slice sa sn sc]) rfl ?_); intro w1 hb1 hk1 hz1; have c3 : w1.cell? ⟨w.heap.size, 3, none⟩ = some (.int .i64 1) := hb1.cell 3; clear hz1 hb1)
        | fail)
      go_ret
      exact ⟨rfl, hk1⟩
    · obtain rfl : r = false := by rw [← hr]; simp [h0]
      have hi : ¬ ((sector : Int) = 0) := by omega
      clear hr hw
      go_enter Try.func50, Try.ntmps50
      go_wp2_with (first
        | ((with_reducible refine aw_box (t := 58) (v := .agg #[.int .i64 l, .int .i64 e, .int .i64 n, .int .i64 1, .int .i64 t, .int .i64 m, .slice sa sn sc]) rfl ?_); intro w1 hb1 hk1 hz1; have c3 : w1.cell? ⟨w.heap.size, 3, none⟩ = some (.int .i64 1) := hb1.cell 3; clear hz1 hb1)
        | fail)
      go_ret
      refine ⟨?_, hk1⟩
      first | rfl | (simp; omega)
  · rw [if_neg k1] at hr
    by_cases k3 : k = 3
    · subst k3
      rw [if_pos rfl] at hr
      by_cases h0 : 0 < sector
      · have h0i : (0 : Int) < sector := by omega
        by_cases h2 : sector + n < size
        · obtain rfl : r = true := by rw [← hr]; simp [h0, h2]
          have h2i : (sector : Int) + n < size := by omega
          clear hr k1
          go_enter Try.func50, Try.ntmps50
          go_wp2_with (first
            | ((with_reducible refine aw_box (t := 58) (v := .agg #[.int .i64 l, .int .i64 e, .int .i64 n, .int .i64 3, .int .i64 t, .int .i64 m, .slice sa sn sc]) rfl ?_); intro w1 hb1 hk1 hz1; have c3 : w1.cell? ⟨w.heap.size, 3, none⟩ = some (.int .i64 3) := hb1.cell 3; have c2 : w1.cell? ⟨w.heap.size, 2, none⟩ = some (.int .i64 n) := hb1.cell 2; clear hz1 hb1)
            | fail)
          go_ret
          exact ⟨rfl, hk1⟩
        · obtain rfl : r = false := by rw [← hr]; simp [h2]
          have h2i : ¬ ((sector : Int) + n < size) := by omega
          clear hr k1
          go_enter Try.func50, Try.ntmps50
          go_wp2_with (first
            | ((with_reducible refine aw_box (t := 58) (v := .agg #[.int .i64 l, .int .i64 e, .int .i64 n, .int .i64 3, .int .i64 t, .int .i64 m, .slice sa sn sc]) rfl ?_); intro w1 hb1 hk1 hz1; have c3 : w1.cell? ⟨w.heap.size, 3, none⟩ = some (.int .i64 3) := hb1.cell 3; have c2 : w1.cell? ⟨w.heap.size, 2, none⟩ = some (.int .i64 n) := hb1.cell 2; clear hz1 hb1)
            | fail)
          go_ret
          exact ⟨rfl, hk1⟩
      · obtain rfl : r = false := by rw [← hr]; simp [h0]
        have h0i : ¬ ((0 : Int) < sector) := by omega
        clear hr k1 hw
        go_enter Try.func50, Try.ntmps50
        go_wp2_with (first
          | ((with_reducible refine aw_box (t := 58) (v := .agg #[.int .i64 l, .int .i64 e, .int .i64 n, .int .i64 3, .int .i64 t, .int .i64 m, .slice sa sn sc]) rfl ?_); intro w1 hb1 hk1 hz1; have c3 : w1.cell? ⟨w.heap.size, 3, none⟩ = some (.int .i64 3) := hb1.cell 3; clear hz1 hb1)
          | fail)
        go_ret
        exact ⟨rfl, hk1⟩
    · rw [if_neg k3] at hr
      obtain ⟨z, hz⟩ : ∃ z, z = decide ((0 : Int) < sector) := ⟨_, rfl⟩
      have hzr : z = r := by rw [hz, ← hr]; exact decide_eq_decide.2 (by omega)
      have HZ := hide hz
      have HZr := hide hzr
      clear hr hw hz hzr
      go_enter Try.func50, Try.ntmps50
      go_wp2_with (first
        | ((with_reducible refine aw_box (t := 58) (v := .agg #[.int .i64 l, .int .i64 e, .int .i64 n, .int .i64 k, .int .i64 t, .int .i64 m, .slice sa sn sc]) rfl ?_); intro w1 hb1 hk1 hz1; have c3 : w1.cell? ⟨w.heap.size, 3, none⟩ = some (.int .i64 k) := hb1.cell 3; clear hz1 hb1)
        | fail)
      go_ret
      refine ⟨?_, hk1⟩
      rw [← HZr.out, HZ.out]
      first | rfl | simp
end Go.Proofs.Ytbbhchmdggfncaa


/-
  A segment's sectors behind a crash: records laid one behind the other, of which one may miss a sector; what a walk finds of them. No condition beyond each law's own premises.
-/
namespace Go.Proofs.Ytbbhchmdggfncaa
set_option linter.unusedSimpArgs false
set_option linter.unusedVariables false
set_option maxRecDepth 100000

/-- What a walk tells: place, epoch, sectors, record. -/
structure En where
  lsn : Int
  ep : Int
  n : Int
  rc : Rc
/-- The entries of a segment's sectors S (those from the sector on), as entries goes through them. -/
def walkL (size : Nat) (most : Int) : Nat → List (List Nat) → Nat → Int → Int → List En
  | 0, _, _, _, _ => []
  | k + 1, S, sector, place, least =>
    if sector < size then
      match standsN place S.flatten with
      | none => []
      | some (e, n, r) => if belN r.kind n.toNat sector size = true ∧ least ≤ e ∧ e ≤ most then ⟨place, e, n, r⟩ :: (if r.kind = 2 then [] else walkL size most k (S.drop n.toNat) (sector + n.toNat) (place + n) e) else []
    else []
/-- A record with its epoch. -/
abbrev It := Int × Rc
def itN (x : It) : Nat := sectN (putR x.2).length
def itS (p : Int) (x : It) : List (List Nat) := sectorsOf p (fun _ => x.1) (putR x.2)
theorem itS_length (p : Int) (x : It) : (itS p x).length = itN x := sectorsOf_length _ _ _
theorem itS_64 (p : Int) (x : It) : ∀ y ∈ itS p x, y.length = 64 := sectorsOf_64
/-- A record that may be laid. -/
structure ItOk (p : Int) (x : It) : Prop where
  right : rightR x.2 = true
  bytes : ∀ y ∈ putR x.2, y < 256
  ep : 0 ≤ x.1 ∧ x.1 ≤ 4294967295
  lsn : LsnOk p (putR x.2).length
/-- The first m records of l lie at p one behind the other; behind them stands none of an epoch above lim, or one that misses a sector. -/
inductive Lays (lim : Int) : Int → List It → Nat → List (List Nat) → Prop
  | last (p : Int) (S : List (List Nat)) : (∀ e n r, standsN p S.flatten = some (e, n, r) → e ≤ lim) → Lays lim p [] 0 S
  | hole (p : Int) (x : It) (l : List It) (j : Nat) (z : List Nat) (S : List (List Nat)) : ItOk p x → j < itN x → (getN z).2 ≠ 0 → z.length = 64 → (∀ y ∈ S, y.length = 64) → Lays lim p (x :: l) 0 ((itS p x).take j ++ z :: S)
  | full (p : Int) (x : It) (l : List It) (m : Nat) (S : List (List Nat)) : ItOk p x → x.2.kind ≠ 2 → (∀ y ∈ S, y.length = 64) → Lays lim (p + itN x) l m S → Lays lim p (x :: l) (m + 1) (itS p x ++ S)
  | switch (p : Int) (x : It) (S : List (List Nat)) : ItOk p x → x.2.kind = 2 → (∀ y ∈ S, y.length = 64) → Lays lim p [x] 1 (itS p x ++ S)
/-- What is told of records that lie at a place. -/
def tells : Int → List It → List En
  | _, [] => []
  | p, x :: l => ⟨p, x.1, itN x, x.2⟩ :: tells (p + itN x) l
/-- Where they may be: each belongs where it lies, and epochs don't fall; the last one's (where no switch ends them) is above lim. -/
def fits (size : Nat) (most lim : Int) : Nat → Int → List It → Prop
  | _, least, [] => lim < least
  | sector, least, x :: l => sector < size ∧ belN x.2.kind (itN x) sector size = true ∧ least ≤ x.1 ∧ x.1 ≤ most ∧ (x.2.kind = 2 ∨ fits size most lim (sector + itN x) x.1 l)
theorem stands_it {p : Int} {x : It} (h : ItOk p x) {S : List (List Nat)} (h64 : ∀ y ∈ S, y.length = 64) : standsN p (itS p x ++ S).flatten = some (x.1, ((itN x : Nat) : Int), x.2) :=
  stands_full h.right h.bytes h.ep h.lsn h64 (getR_put _ h.right)
theorem walk_lays {size : Nat} {most lim : Int} : ∀ {p : Int} {l : List It} {m : Nat} {S : List (List Nat)}, Lays lim p l m S → ∀ (fuel sector : Nat) (least : Int), m < fuel → fits size most lim sector least (l.take m) → walkL size most fuel S sector p least = tells p (l.take m) := by
  intro p l m S h
  induction h with
  | last p S hst =>
    intro fuel sector least hf hfit
    obtain ⟨k, rfl⟩ : ∃ k, fuel = k + 1 := ⟨fuel - 1, by omega⟩
    have hlim : lim < least := hfit
    unfold walkL
    split
    · cases hn : standsN p S.flatten with
      | none => rfl
      | some x =>
        obtain ⟨e, n, r⟩ := x
        have he := hst e n r hn
        simp only []
        rw [if_neg (fun h => by have := h.2.1; omega)]
        rfl
    · rfl
  | hole p x l j z S hx hj hz hz64 h64 =>
    intro fuel sector least hf hfit
    obtain ⟨k, rfl⟩ : ∃ k, fuel = k + 1 := ⟨fuel - 1, by omega⟩
    have hn : standsN p ((itS p x).take j ++ z :: S).flatten = none := stands_hole hx.bytes hx.ep hx.lsn hj hz hz64 h64
    unfold walkL
    split
    · rw [hn]; rfl
    · rfl
  | full p x l m S hx hk h64 hl ih =>
    intro fuel sector least hf hfit
    obtain ⟨k, rfl⟩ : ∃ k, fuel = k + 1 := ⟨fuel - 1, by omega⟩
    rw [List.take_succ_cons] at hfit ⊢
    obtain ⟨f1, f2, f3, f4, f5⟩ := hfit
    unfold walkL
    rw [if_pos f1, stands_it hx h64]
    simp only [Int.toNat_natCast]
    rw [if_pos ⟨f2, f3, f4⟩, if_neg hk, List.drop_left' (itS_length p x), ih k (sector + itN x) x.1 (by omega) (f5.resolve_left hk)]
    rfl
  | switch p x S hx hk h64 =>
    intro fuel sector least hf hfit
    obtain ⟨k, rfl⟩ : ∃ k, fuel = k + 1 := ⟨fuel - 1, by omega⟩
    rw [List.take_succ_cons, List.take_nil] at hfit ⊢
    obtain ⟨f1, f2, f3, f4, f5⟩ := hfit
    unfold walkL
    rw [if_pos f1, stands_it hx h64]
    simp only [Int.toNat_natCast]
    rw [if_pos ⟨f2, f3, f4⟩, if_pos hk]
    rfl
/-- All records' sectors, one behind the other. -/
def itsS : Int → List It → List (List Nat)
  | _, [] => []
  | p, x :: l => itS p x ++ itsS (p + itN x) l
theorem itsS_64 : ∀ (p : Int) (l : List It), ∀ y ∈ itsS p l, y.length = 64
  | _, [], y, hy => by simp [itsS] at hy
  | p, x :: l, y, hy => by
    rcases List.mem_append.1 hy with h | h
    · exact itS_64 p x y h
    · exact itsS_64 _ l y h
/-- Each may be laid where it lies; a switch is the last one. -/
def itsOk : Int → List It → Prop
  | _, [] => True
  | p, x :: l => ItOk p x ∧ (x.2.kind = 2 → l = []) ∧ itsOk (p + itN x) l
/-- Behind a crash: of the sectors of some records each is there, or is none; then comes one that is none, or a switch has ended them. -/
theorem lays_exists {lim : Int} (hlim : -1 ≤ lim) (z : List Nat) (hz : (getN z).2 ≠ 0) (hz64 : z.length = 64) : ∀ (l : List It) (p : Int) (S T : List (List Nat)), itsOk p l → S.length = (itsS p l).length → (∀ (i : Nat) (y : List Nat), S[i]? = some y → y = z ∨ (itsS p l)[i]? = some y) → (∀ y ∈ T, y.length = 64) → (T.head? = some z ∨ ∃ x, l.getLast? = some x ∧ x.2.kind = 2) →
    ∃ m, m ≤ l.length ∧ Lays lim p l m (S ++ T) ∧ ∀ q, q ≤ l.length → (∀ i, i < (itsS p (l.take q)).length → S[i]? = (itsS p l)[i]?) → q ≤ m
  | [], p, S, T, _, hS, _, hT, hend => by
    simp only [itsS, List.length_nil, List.length_eq_zero_iff] at hS
    subst hS
    rcases hend with hend | ⟨x, hx, _⟩
    · obtain ⟨T', rfl⟩ : ∃ T', T = z :: T' := by
        cases T with
        | nil => simp at hend
        | cons a b => simp at hend; exact ⟨b, by rw [hend]⟩
      refine ⟨0, Nat.le_refl _, .last p _ (fun e n r h => ?_), fun q hq _ => hq⟩
      have hn : standsN p (z :: T').flatten = none := by
        unfold standsN
        have hc : chunkN (z :: T').flatten = z :: T' := chunk_flat _ (fun y hy => hT y hy)
        rw [hc]
        have hr : gRun (gStart p) (z :: T') = .inr ([], 0, (getN z).2) := by
          simp only [gRun]
          rw [gStep_bad hz]
        rw [hr]
        exact if_pos hz
      rw [List.nil_append, hn] at h
      cases h
    · simp at hx
  | x :: l, p, S, T, hok, hS, hat, hT, hend => by
    obtain ⟨hx, hsw, hl⟩ := hok
    have hxl := itS_length p x
    simp only [itsS, List.length_append] at hS
    rw [hxl] at hS
    -- the record's own sectors
    by_cases hall : ∀ i, i < itN x → S[i]? = (itS p x)[i]?
    · have hS1 : S.take (itN x) = itS p x := by
        apply List.ext_getElem?
        intro i
        rw [List.getElem?_take]
        split
        · rename_i h; exact hall i h
        · rename_i h; rw [List.getElem?_eq_none (by omega)]
      have hS2 : S = itS p x ++ S.drop (itN x) := by rw [← hS1]; exact (List.take_append_drop _ _).symm
      have hS64 : ∀ y ∈ S.drop (itN x), y.length = 64 := by
        intro y hy
        obtain ⟨i, hi⟩ := List.mem_iff_getElem?.1 (List.mem_of_mem_drop hy)
        rcases hat i y hi with rfl | h
        · exact hz64
        · exact itsS_64 p (x :: l) y (List.mem_of_getElem? h)
      by_cases hk : x.2.kind = 2
      · have hl0 := hsw hk
        subst hl0
        refine ⟨1, Nat.le_refl _, ?_, fun q hq _ => hq⟩
        rw [hS2, List.append_assoc]
        exact .switch p x _ hx hk (fun y hy => by rcases List.mem_append.1 hy with h | h; exact hS64 y h; exact hT y h)
      · obtain ⟨m, hm1, hm2, hm3⟩ := lays_exists hlim z hz hz64 l (p + itN x) (S.drop (itN x)) T hl (by rw [List.length_drop]; omega) (fun i y hi => by
          rw [List.getElem?_drop] at hi
          rcases hat _ y hi with h | h
          · exact .inl h
          · right
            simp only [itsS] at h
            rw [List.getElem?_append_right (by omega), hxl, Nat.add_sub_cancel_left] at h
            exact h) hT (by
          rcases hend with h | ⟨y, hy, hk2⟩
          · exact .inl h
          · right
            cases l with
            | nil => simp at hy; subst hy; exact absurd hk2 hk
            | cons a b => rw [List.getLast?_cons_cons] at hy; exact ⟨y, hy, hk2⟩)
        refine ⟨m + 1, by simp; omega, ?_, fun q hq hqi => ?_⟩
        · rw [hS2, List.append_assoc]
          exact .full p x l m _ hx hk (fun y hy => by rcases List.mem_append.1 hy with h | h; exact hS64 y h; exact hT y h) hm2
        · match q, hq, hqi with
          | 0, _, _ => omega
          | q + 1, hq, hqi =>
            have := hm3 q (by simp at hq; omega) (fun i hi => by
              have h9 := hqi (itN x + i) (by simp only [List.take_succ_cons, itsS, List.length_append, hxl]; omega)
              rw [List.getElem?_drop, h9]
              simp only [itsS]
              rw [List.getElem?_append_right (by omega), hxl, Nat.add_sub_cancel_left])
            omega
    · -- one of them is missing: the first one
      have hex : ∃ j, j < itN x ∧ S[j]? ≠ (itS p x)[j]? ∧ ∀ i, i < j → S[i]? = (itS p x)[i]? := by
        have : ∃ i, i < itN x ∧ S[i]? ≠ (itS p x)[i]? := by
          apply Classical.byContradiction
          intro hno
          exact hall (fun i hi => Classical.byContradiction (fun h => hno ⟨i, hi, h⟩))
        obtain ⟨i, hi⟩ := this
        induction i using Nat.strongRecOn with
        | _ i ih =>
          by_cases hlow : ∃ k, k < i ∧ S[k]? ≠ (itS p x)[k]?
          · obtain ⟨k, hk1, hk2⟩ := hlow
            exact ih k hk1 ⟨by omega, hk2⟩
          · exact ⟨i, hi.1, hi.2, fun k hk => Classical.byContradiction (fun h => hlow ⟨k, hk, h⟩)⟩
      obtain ⟨j, hj, hne, hlt⟩ := hex
      have hjS : j < S.length := by omega
      have hSz : S[j]? = some z := by
        have h1 : S[j]? = some S[j] := List.getElem?_eq_getElem hjS
        rcases hat j S[j] h1 with h | h
        · rw [h1, h]
        · simp only [itsS] at h
          rw [List.getElem?_append_left (by omega)] at h
          exact absurd (h1.trans h.symm) hne
      have hS1 : S.take j = (itS p x).take j := by
        apply List.ext_getElem?
        intro i
        rw [List.getElem?_take, List.getElem?_take]
        split
        · rename_i h; exact hlt i h
        · rfl
      have hS2 : S = (itS p x).take j ++ z :: S.drop (j + 1) := by
        rw [← hS1]
        have h1 := (List.take_append_drop j S).symm
        rw [List.drop_eq_getElem_cons hjS] at h1
        have h2 : S[j] = z := by
          have := List.getElem?_eq_getElem hjS
          rw [hSz] at this
          simpa using this.symm
        rw [h2] at h1
        exact h1
      refine ⟨0, Nat.zero_le _, ?_, fun q hq hqi => ?_⟩
      · rw [hS2, List.append_assoc, List.cons_append]
        refine .hole p x l j z _ hx hj hz hz64 (fun y hy => ?_)
        rcases List.mem_append.1 hy with h | h
        · obtain ⟨i, hi⟩ := List.mem_iff_getElem?.1 (List.mem_of_mem_drop h)
          rcases hat i y hi with rfl | h
          · exact hz64
          · exact itsS_64 p (x :: l) y (List.mem_of_getElem? h)
        · exact hT y h
      · match q, hq, hqi with
        | 0, _, _ => exact Nat.le_refl _
        | q + 1, hq, hqi =>
          have h9 := hqi j (by simp only [List.take_succ_cons, itsS, List.length_append, hxl]; omega)
          simp only [itsS] at h9
          rw [List.getElem?_append_left (by omega)] at h9
          exact absurd h9 hne
end Go.Proofs.Ytbbhchmdggfncaa


/-
  What a segment's entries are, over its bytes; an entry of one's own in memory. No condition beyond each law's own premises.
-/
namespace Go.Proofs.Ytbbhchmdggfncaa
open Go.RowKit Go.Shelf
set_option linter.unusedSimpArgs false
set_option linter.unusedVariables false
set_option maxRecDepth 100000

theorem gStep_num {s : GS} {b : List Nat} {r : GR} (h : gOk s) (hs : gStep s b = .inr r) (h0 : r.2.2 = 0) : 1 ≤ r.2.1 ∧ r.2.1 ≤ 65536 := by
  unfold gStep at hs
  obtain ⟨g1, g2, g3, g4, g5, g6, g7, g8⟩ := h
  split at hs
  · rename_i h1
    cases hs
    exact absurd h0 h1
  · split at hs
    · cases hs
      exact absurd h0 (by decide)
    · split at hs
      · rename_i h3
        cases hs
        simp only []
        omega
      · cases hs
theorem gRun_num : ∀ (xs : List (List Nat)) {s : GS} {r : GR}, gOk s → gRun s xs = .inr r → r.2.2 = 0 → 1 ≤ r.2.1 ∧ r.2.1 ≤ 65536
  | [], _, _, _, h, _ => by simp [gRun] at h
  | b :: xs, s, r, hk, h, h0 => by
    simp only [gRun] at h
    cases hs : gStep s b with
    | inl s' => rw [hs] at h; exact gRun_num xs (gStep_ok hk hs) h h0
    | inr x => rw [hs] at h; simp only [Sum.inr.injEq] at h; rw [← h] at h0 ⊢; exact gStep_num hk hs h0
/-- A record takes a sector at least. -/
theorem stands_num {place : Int} {B : List Nat} {e n : Int} {r : Rc} (hp : 0 ≤ place ∧ place ≤ 4611686018427387903) (h : standsN place B = some (e, n, r)) : 1 ≤ n ∧ n ≤ 65536 := by
  unfold standsN at h
  split at h
  · cases h
  · rename_i h0
    split at h
    · cases h
    · cases h
      have h0' : (gEnd (gRun (gStart place) (chunkN B))).2.2 = 0 := by simpa using h0
      cases hr : gRun (gStart place) (chunkN B) with
      | inl s => rw [hr] at h0'; exact absurd h0' (by simp [gEnd])
      | inr x =>
        rw [hr] at h0'
        exact gRun_num _ (by unfold gOk gStart; simp; omega) hr h0'

/-- The entries of the bytes B of a segment, from a sector on. -/
def walkB (size : Nat) (most : Int) (B : List Nat) : Nat → Nat → Int → Int → List En
  | 0, _, _, _ => []
  | k + 1, sector, place, least =>
    if sector < size then
      match standsN place (B.drop (64 * sector)) with
      | none => []
      | some (e, n, r) => if belN r.kind n.toNat sector size = true ∧ least ≤ e ∧ e ≤ most then ⟨place, e, n, r⟩ :: (if r.kind = 2 then [] else walkB size most B k (sector + n.toNat) (place + n) e) else []
    else []
theorem flat_drop64 : ∀ (S : List (List Nat)) (k : Nat), (∀ x ∈ S, x.length = 64) → S.flatten.drop (64 * k) = (S.drop k).flatten
  | S, 0, _ => by simp
  | [], k + 1, _ => by simp
  | x :: S, k + 1, h => by
    have hx : x.length = 64 := h x List.mem_cons_self
    rw [List.flatten_cons, show 64 * (k + 1) = x.length + 64 * k by rw [hx]; omega, List.drop_append, List.drop_succ_cons]
    rw [List.drop_eq_nil_of_le (by omega), List.nil_append, show x.length + 64 * k - x.length = 64 * k by omega]
    exact flat_drop64 S k (fun y hy => h y (List.mem_cons_of_mem _ hy))
theorem walkB_L {size : Nat} {most : Int} {S : List (List Nat)} (h : ∀ x ∈ S, x.length = 64) : ∀ (k sector : Nat) (place least : Int), walkB size most S.flatten k sector place least = walkL size most k (S.drop sector) sector place least
  | 0, _, _, _ => rfl
  | k + 1, sector, place, least => by
    unfold walkB walkL
    rw [flat_drop64 S sector h]
    split
    · cases standsN place (S.drop sector).flatten with
      | none => rfl
      | some x =>
        obtain ⟨e, n, r⟩ := x
        simp only []
        rw [walkB_L h k, List.drop_drop]
    · rfl
/-- One step, where an entry is told. -/
theorem walkB_some {size : Nat} {most : Int} {B : List Nat} {k sector : Nat} {place least e n : Int} {r : Rc} (hs : sector < size) (h : standsN place (B.drop (64 * sector)) = some (e, n, r)) (hb : belN r.kind n.toNat sector size = true) (he : least ≤ e ∧ e ≤ most) :
    walkB size most B (k + 1) sector place least = ⟨place, e, n, r⟩ :: (if r.kind = 2 then [] else walkB size most B k (sector + n.toNat) (place + n) e) := by
  rw [walkB, if_pos hs, h]
  simp only []
  rw [if_pos ⟨hb, he⟩]
theorem walkB_none {size : Nat} {most : Int} {B : List Nat} {k sector : Nat} {place least : Int} (h : standsN place (B.drop (64 * sector)) = none) : walkB size most B (k + 1) sector place least = [] := by
  rw [walkB, h]
  split <;> rfl
theorem walkB_no {size : Nat} {most : Int} {B : List Nat} {k sector : Nat} {place least e n : Int} {r : Rc} (h : standsN place (B.drop (64 * sector)) = some (e, n, r)) (hb : ¬ (belN r.kind n.toNat sector size = true ∧ least ≤ e ∧ e ≤ most)) : walkB size most B (k + 1) sector place least = [] := by
  rw [walkB, h]
  simp only []
  rw [if_neg hb]
  split <;> rfl
theorem walkB_end {size : Nat} {most : Int} {B : List Nat} {k sector : Nat} {place least : Int} (h : ¬ sector < size) : walkB size most B k sector place least = [] := by
  cases k with
  | zero => rfl
  | succ k => rw [walkB, if_neg h]

/-- The blocks that a record of one's own stands on. -/
def rvX (y : Rv) : NSet := fun k => y.s.v.ownBlock = some k ∨ ∃ z ∈ y.ws, z.s.v.ownBlock = some k
/-- An entry, as it is handed on: its record is the taker's own. -/
def EEn : EncR En := fun x v G W => ∃ y : Rv, v = enAgg x.lsn x.ep x.n y.kd y.tl y.nm y.s ∧ y.rc = x.rc ∧ WsOwn W y.s.v y.ws ∧ y.ws.length ≤ 65535 ∧ ∀ k, G k ↔ rvX y k
theorem EEn.ok (X : NSet) : EOk X EEn := by
  rintro x v G W W' S ⟨y, h1, h2, h3, h4, h5⟩ hk hS
  refine ⟨y, h1, h2, h3.kept hk (fun k he hs => (hS k hs).1 ((h5 k).2 (.inl he))) (fun z hz k he hs => (hS k hs).1 ((h5 k).2 (.inr ⟨z, hz, he⟩))), h4, h5⟩
theorem RcOwn.enc {N : Nat} {w : World} {y : Rv} {l e n : Int} {r : Rc} (h : RcOwn N w y) (hr : y.rc = r) : EEn ⟨l, e, n, r⟩ (enAgg l e n y.kd y.tl y.nm y.s) (rvX y) w := ⟨y, rfl, hr, h.1, h.2.2, fun _ => Iff.rfl⟩
theorem RcOwn.ge {N : Nat} {w : World} {y : Rv} (h : RcOwn N w y) (k : Nat) (hk : rvX y k) : N ≤ k := hk.elim (h.2.1.1 k) (fun ⟨z, hz, he⟩ => h.2.1.2 z hz k he)
end Go.Proofs.Ytbbhchmdggfncaa
