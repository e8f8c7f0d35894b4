/-
  PoolPlays, walked.
-/
import Derived.Test.YtnlcmgdeohbmoaaJ47
namespace Go.Proofs.Ytnlcmgdeohbmoaa
open Go.RowKit Go.Shelf
set_option linter.unusedSimpArgs false
set_option linter.unusedVariables false
set_option maxRecDepth 100000

section
variable {ρ : Operand → Value} {w : World} {dst : Option Tmp} {ty : TypeId} {pos : String} {aft : Array Edge} {gd : Option (Nat × Bool)} {x y z : Operand}
theorem r_ne3F {p : Int} (hx : ρ x = .int .i64 p) (hy : ρ y = .int .i64 p) : (execOp ρ ⟨dst, .binOp .neq 3 x y 3, ty, pos, aft, gd⟩).run Try.prog w = .ok (.value (.bool false)) w := by
  have h := r_neq3 (w := w) (dst := dst) (ty := ty) (pos := pos) (aft := aft) (gd := gd) hx hy
  simpa using h
theorem r_ne9F {p : ByteArray} (hx : ρ x = .string p) (hy : ρ y = .string p) : (execOp ρ ⟨dst, .binOp .neq 9 x y 9, ty, pos, aft, gd⟩).run Try.prog w = .ok (.value (.bool false)) w := by
  have h := r_neq9 (w := w) (dst := dst) (ty := ty) (pos := pos) (aft := aft) (gd := gd) hx hy
  simpa using h
theorem r_fD0 {b : Nat} (hx : ρ x = .pointer (some ⟨b, 0, none⟩)) : (execOp ρ ⟨dst, .fieldAddr 33 x 0, ty, pos, aft, gd⟩).run Try.prog w = .ok (.value (.pointer (some ⟨b, 0, none⟩))) w := by
  go_simp
end
theorem DOk.crashed {s : D.DS} {nd : Nat} (h : DOk s nd) (ks : List Bool) : DOk (s.crashed ks) nd := by
  have h3 := D.laidTo_ok (fun i => ks.getD i false) nd s.ws s.st h.ok h.hl h.hB s.ws.length (Nat.le_refl _)
  exact ⟨h.n2, h3.1, h3.2, by simp [D.DS.crashed], by simp [D.DS.crashed], by simp [D.DS.crashed]⟩
theorem DOk.limit {s : D.DS} {nd : Nat} (h : DOk s nd) (m : Int) (hm : m ≤ 9223372036854775807) : DOk { s with left := max m (-1) } nd :=
  ⟨h.n2, h.hl, h.hB, h.ok, by show -1 ≤ max m (-1); omega, by show max m (-1) ≤ _; omega⟩
theorem Kept.le {S : NSet} {w w' : World} (h : Kept S w w') : w.heap.size ≤ w'.heap.size := h.size
set_option maxHeartbeats 60000000 in
theorem pplays_ok (W : World) (fr n : Nat) (hn : 1 ≤ n ∧ n ≤ 64) (hf : fr + n ≤ 20) (v : Value) (m : Nat) (hl : OpsP W v m) : Calls Try.prog 3 #[.int .i64 fr, .int .i64 n, v] W fun e w' => e = .returned (.bool true) ∧ Kept (fun _ => False) W w' := by
  obtain ⟨ao, cap, rfl, hm, hops⟩ := hl
  have HOps := hide hops
  have Hn := hide hn
  have HFit := hide hf
  obtain ⟨i0, hi0, hz0, hs0, hb0⟩ := info_parts Try.info37
  have Hi0 := hide hi0
  have Hz0 := hide hz0
  obtain ⟨i5, hi5, hz5, hs5, hb5⟩ := info_parts Try.info53
  have Hi5 := hide hi5
  have Hz5 := hide hz5
  clear hops hi0 hz0 hs0 hb0 hi5 hz5 hs5 hb5 hn hf
  go_enter Try.func3, Try.ntmps3
  go_wp2_with fail
  refine (first_at W).mono ?_
  rintro e w1 ⟨rfl, hk1⟩
  have HK1 := hide hk1
  clear hk1
  go_wp2_with fail
  refine (dnew_at w1 20 (by decide) (by decide)).mono ?_
  rintro e w2 ⟨db, F, rfl, hk2, hd2, hF2⟩
  have HK2 := hide (HK1.out.trans hk2 (fun _ _ h => h))
  have HD2 := hide hd2
  have HF2 : Hid (∀ k, F k → W.heap.size ≤ k) := hide (fun k h => Nat.le_trans HK1.out.size (hF2 k h))
  clear hk2 hd2 hF2 HK1
  go_wp2_with fail
  refine (pnew_at W w2 db 20 F HK2.out HD2.out HF2.out fr n Hn.out HFit.out).mono ?_
  rintro e w3 ⟨b, rfl, hp3, hk3⟩
  have HP3 := hide hp3
  clear hp3 hk3 HD2 HF2 HK2
  go_wp2_with fail
  refine (D.refNew_any w3 20 (by decide)).mono ?_
  rintro e w4 ⟨rfl, hk4⟩
  have HP4 := hide (HP3.out.same hk4)
  clear hk4 HP3
  go_wp2_with fail
  refine (rpnew_ok w4 (D.DS.new 20) 20 (dok_new (by decide)) (.slice none 0 0) (WtAt.nil w4 rfl) fr n Hn.out HFit.out).mono ?_
  rintro e w5 ⟨hv5, dv5, rfl, hr5, hk5⟩
  have HP5 := hide (HP4.out.same hk5)
  have HR5 := hide hr5.zero
  clear hr5 hk5 HP4
  have HBd : Hid (Bnd (D.DS.new 20) ⟨fr, n, [], []⟩ 0) := hide ⟨Nat.le_refl _, Nat.le_refl _, Nat.le_refl _, Nat.le_refl _⟩
  obtain ⟨s5, hs5⟩ : ∃ s5, D.DS.new 20 = s5 := ⟨_, rfl⟩
  rw [hs5] at HP5 HR5 HBd ⊢
  obtain ⟨rv5, hrv5⟩ : ∃ rv5, Value.slice none 0 0 = rv5 := ⟨_, rfl⟩
  rw [hrv5] at HR5
  have Hrv5 := hide hrv5
  clear hs5 hrv5
  go_wp2_with (first
    | ((with_reducible refine aw_alloc (t := 37) Hi0.out Hz0.out ?_); intro w6 hw6 hk6 hz6; have HP6 := hide (HP5.out.same hk6); have HW6 := hide hw6; have HR6 := hide (HR5.out.kept hk6); clear hw6 hk6 hz6)
    | (with_reducible refine stop_store 37 ?_)
    | fail)
  refine hide ?_
  refine aw_store (M := refPL s5 rv5 fr hv5 dv5) Try.agg37 rfl (by rw [← Hrv5.out]; rfl) rfl HR6.out.one HW6.out (by rw [zero37]; decide) ?_
  intro w7 hw7 hk7 hz7
  rw [put_whole _ _ (by rw [zero37]; rfl)] at hw7
  obtain ⟨bx, hbx⟩ : ∃ bx, w5.heap.size = bx := ⟨_, rfl⟩
  have hge : W.heap.size ≤ bx := by rw [← hbx]; exact HP5.out.kept.size
  have HWx := HW6.out
  rw [hbx] at hw7 hk7 HWx ⊢
  have HS7 : Hid (LSt W w7 db b bx fr n 0 s5 ⟨fr, n, [], []⟩ rv5 hv5 dv5 (noH n) (noT n) 0) := hide
    { pw := HP6.out.keptX HWx hk7 hge, hb := ⟨hw7, HR6.out.keptX HWx hk7, Nat.zero_le _⟩, rel := PrRel.new fr n, lf := rfl, ln := rfl, ge := hge, bd := HBd.out }
  clear hw7 hk7 hz7 hbx hge HWx HP6 HW6 HR6 HP5 HR5 HBd Hrv5
  try simp only [put_lit, put_none, List.set_cons_succ, List.set_cons_zero]
  go_wp2_with fail
  refine (poolnew_nil w7 0 1).mono ?_
  rintro e w8 ⟨rfl, rfl⟩
  go_wp2
  go_loopw [108] (fun i wr => ∃ (k : Nat) (s : D.DS) (l : PL) (rv hv dv : Value) (H : List (List Nat)) (T : List Bool), i = .int .i64 k ∧ k ≤ m ∧ k ≤ 50 ∧ Hid (LSt W wr db b bx fr n k s l rv hv dv H T 0)) (fun i _ => m - (intOf i).toNat)
  case atStart => exact ⟨0, _, _, _, _, _, _, _, rfl, Nat.zero_le _, Nat.zero_le _, HS7⟩
  case round =>
    obtain ⟨k, s, l, rv, hv, dv, H, T, rfl, hk, hk50, HS⟩ := hrel
    clear HS7
    by_cases hlt : k < m
    · skip
      obtain ⟨g, off, ⟨kd, nn, ⟨pa, pn, pc⟩, ws, ⟨qa, qn, qc⟩, ks⟩, rfl, hcl, hop⟩ := HOps.out k hlt
      have hcr := (HS.out.pw.kept).cells hcl (fun h => h)
      obtain ⟨hws, hks, hkd, hnn⟩ := hop
      simp only [Sl.v] at hws hks hkd hnn
      have hpn := hws.len
      subst hpn
      have Hcr := hide hcr
      have HWs := hide hws
      have HKs := hide hks
      have Hnn := hide hnn
      clear hcl hcr hws hks hnn
      by_cases h50 : 50 ≤ k
      · have h50I : (50 : Int) ≤ (k : Int) := by omega
        go_wp2_with (first
          | (with_reducible refine D.aw_loadC Try.agg53 rfl Hcr.out rfl ?_)
          | ((with_reducible refine aw_alloc (t := 53) (dst := some 20) Hi5.out Hz5.out ?_); intro w3 hw3 hk3 hz3; have Hz3 := hide hz3; clear hz3)
          | ((with_reducible refine aw_store (x := .tmp 20) (M := [Value.int .i64 kd, .int .i64 nn, .slice pa ws.length pc, .slice qa qn qc]) Try.agg53 rfl rfl rfl (by simp [Value.oneCell']) hw3 (by simp [Value.cells]) ?_); intro w4 hw4 hk4 hz4; rw [put_whole _ _ (by simp [Value.cells])] at hw4; have HK34 := hide (hk3.trans hk4 (S := fun _ => False) (fun i hi h => by omega)); have e2 : w4.cell? ⟨wr.heap.size, 2, none⟩ = some (.slice pa ws.length pc) := hw4.cell 2; have HO4 := hide hw4; clear hz4 hw3 hk3 hk4 hw4))
        go_ret
        exact ⟨rfl, HS.out.pw.kept.trans HK34.out (fun _ _ h => h)⟩
      · have h50I : ¬ (50 : Int) ≤ (k : Int) := by omega
        by_cases hw20 : 20 < ws.length
        · have hw20I : (20 : Int) < (ws.length : Int) := by omega
          go_wp2_with (first
            | (with_reducible refine D.aw_loadC Try.agg53 rfl Hcr.out rfl ?_)
            | ((with_reducible refine aw_alloc (t := 53) (dst := some 20) Hi5.out Hz5.out ?_); intro w3 hw3 hk3 hz3; have Hz3 := hide hz3; clear hz3)
            | ((with_reducible refine aw_store (x := .tmp 20) (M := [Value.int .i64 kd, .int .i64 nn, .slice pa ws.length pc, .slice qa qn qc]) Try.agg53 rfl rfl rfl (by simp [Value.oneCell']) hw3 (by simp [Value.cells]) ?_); intro w4 hw4 hk4 hz4; rw [put_whole _ _ (by simp [Value.cells])] at hw4; have HK34 := hide (hk3.trans hk4 (S := fun _ => False) (fun i hi h => by omega)); have e2 : w4.cell? ⟨wr.heap.size, 2, none⟩ = some (.slice pa ws.length pc) := hw4.cell 2; have HO4 := hide hw4; clear hz4 hw3 hk3 hk4 hw4))
          go_ret
          exact ⟨rfl, HS.out.pw.kept.trans HK34.out (fun _ _ h => h)⟩
        · have hw20I : ¬ (20 : Int) < (ws.length : Int) := by omega
          go_wp2_with (first
            | (with_reducible refine D.aw_loadC Try.agg53 rfl Hcr.out rfl ?_)
            | ((with_reducible refine aw_alloc (t := 53) (dst := some 20) Hi5.out Hz5.out ?_); intro w3 hw3 hk3 hz3; have Hz3 := hide hz3; clear hz3)
            | ((with_reducible refine aw_store (x := .tmp 20) (M := [Value.int .i64 kd, .int .i64 nn, .slice pa ws.length pc, .slice qa qn qc]) Try.agg53 rfl rfl rfl (by simp [Value.oneCell']) hw3 (by simp [Value.cells]) ?_); intro w4 hw4 hk4 hz4; rw [put_whole _ _ (by simp [Value.cells])] at hw4; have HK34 := hide (hk3.trans hk4 (S := fun _ => False) (fun i hi h => by omega)); have e0 : w4.cell? ⟨wr.heap.size, 0, none⟩ = some (.int .i64 kd) := hw4.cell 0; have e2 : w4.cell? ⟨wr.heap.size, 2, none⟩ = some (.slice pa ws.length pc) := hw4.cell 2; have HO4 := hide hw4; clear hz4 hw3 hk3 hk4 hw4)
            | (with_reducible refine stop_bin .rem ?_))
          refine hide ?_
          have hv0 : 0 ≤ IntKind.u64.wrap kd := by rw [IntKind.wrap_u64]; omega
          obtain ⟨q, hq⟩ : ∃ q, IntKind.u64.wrap kd % 7 = q := ⟨_, rfl⟩
          have hq7 : q = 0 ∨ q = 1 ∨ q = 2 ∨ q = 3 ∨ q = 4 ∨ q = 5 ∨ q = 6 := by omega
          have HQ := hide hq
          have HV0 := hide hv0
          refine wpList_run rfl (r_rem7 (v := IntKind.u64.wrap kd) (q := q) rfl rfl HV0.out HQ.out) ?_
          have HS4 := hide (HS.out.same HK34.out)
          have hobx : wr.heap.size ≠ bx := by have := HS.out.hb.blk.lt; omega
          obtain ⟨ob, hob⟩ : ∃ ob, wr.heap.size = ob := ⟨_, rfl⟩
          rw [hob] at HO4 hobx e0 e2 ⊢
          have Hobx := hide hobx
          have Hw20 := hide hw20
          have Hk49 : Hid (k ≤ 49) := hide (by omega)
          have HB1 : Hid (l.hand.length ≤ 1000 ∧ l.dirty.length ≤ 1000 ∧ s.calls ≤ 100000 ∧ s.ws.length ≤ 100000) := hide (by have b := HS.out.bd; exact ⟨by have := b.h; omega, by have := b.d; omega, by have := b.c; omega, by have := b.w; omega⟩)
          clear hq hv0 hobx hob HS HK34 Hz3 Hcr e0 e2 hw20I h50I hw20 h50 HQ HV0 hkd
          try simp only [put_lit, put_none, List.set_cons_succ, List.set_cons_zero]
          rcases hq7 with rfl | rfl | rfl | rfl | rfl | rfl | rfl
          · as_aux_lemma =>
            have e2 : w4.cell? ⟨ob, 2, none⟩ = some (.slice pa ws.length pc) := HO4.out.cell 2
            go_wp2_with (first | (with_reducible refine stop_load 37 ?_) | fail)
            refine hide ?_
            refine aw_load (M := refPL s rv fr hv dv) Try.agg37 rfl HS4.out.hb.blk (by rw [refPL_len]; decide) rfl ?_
            try simp only [put_lit, put_none, List.set_cons_succ, List.set_cons_zero]
            go_wp2_with fail
            refine (rpput_at w4 0 20 s rv fr n hv dv H T HS4.out.hb.rf (Nat.zero_le _) _ ws (HWs.out.kept HS4.out.pw.kept)).mono ?_
            rintro e w5 ⟨hv5, dv5, rfl, hr5, hk5⟩
            clear e2
            have HS5 := hide (HS4.out.same hk5)
            have HO5 := hide (hk5.blk HO4.out (fun h => h))
            have HR5 := hide hr5
            clear hk5 hr5
            go_wp2_with (first | (with_reducible refine stop_store 37 ?_) | fail)
            refine hide ?_
            refine aw_store (M := refPL s rv fr hv5 dv5) Try.agg37 rfl rfl rfl HR5.out.one HS5.out.hb.blk (by rw [refPL_len]; decide) ?_
            intro w6 hw6 hk6 hz6
            rw [put_whole _ _ (by rw [refPL_len, refPL_len])] at hw6
            obtain ⟨hp6, hb6⟩ := HS5.out.store HR5.out hw6 hk6
            have HP6 := hide hp6
            have HB6 := hide hb6
            have HO6 := hide (hk6.blk HO5.out Hobx.out)
            clear hw6 hk6 hz6 hp6 hb6 HS5 HR5 HO5
            try simp only [put_lit, put_none, List.set_cons_succ, List.set_cons_zero]
            have e2 : w6.cell? ⟨ob, 2, none⟩ = some (.slice pa ws.length pc) := HO6.out.cell 2
            have hput := HP6.out.put (.slice pa ws.length pc) ws (fun w' hk _ => HWs.out.kept hk) (by have := HB1.out; have := Hw20.out; omega) (by have := HB1.out; have := Hw20.out; omega)
            rw [HS4.out.ln] at hput
            have HPut := hide hput
            clear hput
            go_wp2_with fail
            refine HPut.out.mono ?_
            rintro e w9 ⟨rfl, hp9, hT9⟩
            have hrel := HS4.out.rel.putE (ws.map Wv.wr) (fun x hx => by
              obtain ⟨y, hy, rfl⟩ := List.mem_map.1 hx
              exact (HWs.out.2.1 y hy).lt)
            rw [HS4.out.ln] at hrel
            obtain ⟨s9, l9, rv9, hv9, dv9, H9, T9, HZ⟩ : ∃ s9 l9 rv9 hv9 dv9 H9 T9, Hid (LSt W w9 db b bx fr n (k + 1) s9 l9 rv9 hv9 dv9 H9 T9 0) := ⟨_, _, _, _, _, _, _, hide
              { pw := hp9, hb := HB6.out.keptZ hT9, rel := hrel, lf := by rw [(puts_fr _ _).1]; exact HS4.out.lf, ln := by rw [(puts_fr _ _).2]; exact HS4.out.ln, ge := HS4.out.ge, bd := HS4.out.bd.put _ (by rw [List.length_map]; have := Hw20.out; omega) }⟩
            obtain ⟨E9, hE9⟩ : ∃ E9 : Int, withE n (ws.map Wv.wr) = E9 := ⟨_, rfl⟩
            rw [hE9]
            clear hE9
            clear hp9 hT9 hrel e2 HPut HP6 HB6 HO6 HS4 HO4 HWs HKs Hnn Hobx Hw20 HB1
            obtain ⟨dg, dcap, CT, rfl, -⟩ := id HZ.out.hb.rf.hd
            have HTl : Hid (T9.length = n) := hide HZ.out.hb.rf.lens.2
            have HDl : Hid (l9.dirty.length ≤ 1000) := hide (by have := HZ.out.bd.d; have := Hk49.out; omega)
            have c7 : w9.cell? ⟨bx, 7, none⟩ = some (.slice (some ⟨dg, 0, none⟩) n dcap) := HZ.out.hb.blk.cell 7
            go_wp2
            clear c7
            go_loopw [31, 218] (fun o i wq => ∃ j : Nat, i = .int .i64 j ∧ j ≤ n ∧ o = .int .i64 ((dBel l9.dirty (j : Nat)).length : Nat) ∧ Hid (Kept (fun _ => False) w9 wq)) (fun _ i _ => n - (intOf i).toNat)
            case atStart => exact ⟨0, rfl, Nat.zero_le _, by rw [show ((0 : Nat) : Int) = 0 from rfl, dBel_none (fun e he => (HZ.out.rel.kd e he).1)]; rfl, hide (Kept.refl _ _)⟩
            case round =>
              obtain ⟨j, rfl, hj, rfl, HKq⟩ := hrel
              obtain ⟨cn, hcn⟩ : ∃ cn, (dBel l9.dirty (j : Nat)).length = cn := ⟨_, rfl⟩
              rw [hcn]
              have Hcn := hide hcn
              clear hcn
              by_cases hjn : j < n
              · have hjI : (j : Int) < (n : Int) := by omega
                have hn20 : n ≤ 20 := by have := HFit.out; omega
                have hjL : j < l9.n := by rw [HZ.out.ln]; exact hjn
                have HjL := hide hjL
                have c0 : wr.cell? ⟨dg, j, none⟩ = some (.bool (T9.getD j false)) := by
                  obtain ⟨g2, cap2, C2, he2, hb2, -⟩ := (HZ.out.same HKq.out).hb.rf.hd
                  cases he2
                  have hjT : j < T9.length := by rw [HTl.out]; exact hjn
                  rw [hb2.cell, List.getElem?_append_left (by rw [TV_length]; exact hjT), TV_get hjT]
                  simp [hjT]
                clear hjL
                cases hb : T9.getD j false with
                | false =>
                  rw [hb] at c0
                  have Hst := hide (HZ.out.rel.cntN HjL.out hb)
                  clear hb
                  go_wp2
                  go_roundw
                  case rel => exact ⟨j + 1, by simp, by omega, by rw [Hst.out, Hcn.out], HKq⟩
                  case measure => simp [intOf]; omega
                | true =>
                  rw [hb] at c0
                  obtain ⟨hc1, xx, hc2⟩ := HZ.out.rel.cnt HjL.out hb
                  rw [Hcn.out] at hc1 hc2
                  have Hc1 := hide hc1
                  have Hc2 := hide hc2
                  have hcd := (List.getElem?_eq_some_iff.1 hc2).1
                  clear hb hc1 hc2
                  go_wp2_with fail
                  refine ((HZ.out.same HKq.out).pw.dirty (by have := HDl.out; omega)).mono ?_
                  rintro e wd ⟨kv, rfl, hown, -, hkd⟩
                  rcases ownsRow_blk hown with ⟨rfl, h0, _⟩ | ⟨kg, kc, kC, rfl, hkb, -⟩
                  · omega
                  · have d0 : wd.cell? ⟨kg, cn, none⟩ = some (.int .i64 j) := by
                      rw [hkb.cell, List.getElem?_append_left (by rw [List.length_map]; exact hcd), List.getElem?_map, Hc2.out]
                      rfl
                    have HKd := hide (HKq.out.trans hkd (fun _ _ h => h))
                    obtain ⟨dl, hdl⟩ : ∃ dl, l9.dirty.length = dl := ⟨_, rfl⟩
                    have hdl2 := HDl.out
                    rw [hdl] at hcd hdl2 ⊢
                    have hcI : ¬ ((dl : Int) ≤ (cn : Int)) := by omega
                    have hcJ : (cn : Int) < (dl : Int) := by omega
                    have hwc : IntKind.i64.wrap ((cn : Int) + 1) = ((cn + 1 : Nat) : Int) := by rw [IntKind.wrap_i64]; omega
                    clear hown hkb hkd c0 hdl
                    go_wp2
                    go_roundw
                    case rel => exact ⟨j + 1, by simp, by omega, by rw [Hc1.out]; simp, HKd⟩
                    case measure => simp [intOf]; omega
              · obtain rfl : n = j := by omega
                have Hcl : Hid (l9.dirty.length = cn) := hide (by
                  have := HZ.out.rel.cntA
                  rw [HZ.out.ln] at this
                  rw [← Hcn.out, this])
                go_wp2_with fail
                refine hold_frame (p := fun fr => Code.wp Try.prog _ _ fr _) ?_
                intro fa hfr
                have e7 : fa.eval (.tmp 7) = .pointer (some ⟨db, 0, none⟩) := by rw [hfr.out]; rfl
                have e9 : fa.eval (.tmp 9) = .pointer (some ⟨b, 0, none⟩) := by rw [hfr.out]; rfl
                have e11 : fa.eval (.tmp 11) = .pointer (some ⟨bx, 0, none⟩) := by rw [hfr.out]; rfl
                have e21 : fa.eval (.tmp 21) = .int .i64 E9 := by rw [hfr.out]; rfl
                have e22 : fa.eval (.tmp 22) = .int .i64 E9 := by rw [hfr.out]; rfl
                have e31 : fa.eval (.tmp 31) = .int .i64 cn := by rw [hfr.out]; rfl
                have hts : fa.tmps.size = 261 := by rw [hfr.out]; rfl
                refine region_S0 99 Try.mixed ?_
                intro w0 hkw hheap
                have hS0 : Kept (fun _ => False) w0 w0 := Kept.refl (fun _ => False) w0
                have hZ0 := HZ.out.same (HKq.out.trans hkw (fun _ _ h => h))
                refine ⟨Kept (fun _ => False) w0, ?_⟩
                refine tkS 0 241 (v := .int .i64 E9) hS0 rfl rfl (by kernel_rfl) (by kernel_rfl) (by kernel_rfl) (by kernel_rfl) (wanted_none rfl) (fun _ _ _ h => h) (fun U hU => r_move (by simp [eval_put_ne, eval_put_eq, size_put, hts, e22])) ?_
                refine tkS 1 242 (v := .int .i64 E9) hS0 rfl rfl (by kernel_rfl) (by kernel_rfl) (by kernel_rfl) (by kernel_rfl) (wanted_none rfl) (fun _ _ _ h => h) (fun U hU => r_move (by simp [eval_put_ne, eval_put_eq, size_put, hts, e21])) ?_
                refine tkS 2 243 (v := .bool false) hS0 rfl rfl (by kernel_rfl) (by kernel_rfl) (by kernel_rfl) (by kernel_rfl) (wanted_none rfl) (fun _ _ _ h => h) (fun U hU => r_ne3F (p := E9) (by simp [eval_put_ne, eval_put_eq, size_put, hts]) (by simp [eval_put_ne, eval_put_eq, size_put, hts])) ?_
                refine tkS 3 244 (v := .bool false) hS0 rfl rfl (by kernel_rfl) (by kernel_rfl) (by kernel_rfl) (by kernel_rfl) (wanted_none rfl) (fun _ _ _ h => h) (fun U hU => r_move (by simp [eval_put_ne, eval_put_eq, size_put, hts])) ?_
                refine tkS 4 245 (v := .pointer (some ⟨b, 0, none⟩)) hS0 rfl rfl (by kernel_rfl) (by kernel_rfl) (by kernel_rfl) (by kernel_rfl) (wanted_some (j := 3) (d := 244) (bb := false) rfl rfl rfl (by simp [eval_put_ne, eval_put_eq, size_put, hts]) (by simp [size_put, hts])) (fun _ _ _ h => h) (fun U hU => r_move (by simp [eval_put_ne, eval_put_eq, size_put, hts, e9])) ?_
                refine tkS 7 248 (v := .int .i64 (cn : Nat)) hS0 rfl rfl (by kernel_rfl) (by kernel_rfl) (by kernel_rfl) (by kernel_rfl) (wanted_some (j := 3) (d := 244) (bb := false) rfl rfl rfl (by simp [eval_put_ne, eval_put_eq, size_put, hts]) (by simp [size_put, hts])) (fun _ _ _ h => h) (fun U hU => r_move (by simp [eval_put_ne, eval_put_eq, size_put, hts, e31])) ?_
                refine oneCS 5 246 (by kernel_rfl) rfl rfl (wanted_some (j := 3) (d := 244) (bb := false) rfl rfl rfl (by simp [eval_put_ne, eval_put_eq, size_put, hts]) (by simp [size_put, hts])) (r_call1 Try.func16 (by kernel_rfl) rfl rfl (by simp [eval_put_ne, eval_put_eq, size_put, hts])) (hZ0.pw.dirty (by have := HDl.out; omega)) ?_
                rintro e v1 ⟨kv, rfl, hown, -, hkv⟩
                obtain ⟨kva, kvc, rfl⟩ := ownsRow_slice hown
                rw [Hcl.out]
                refine ⟨_, rfl, hkv, ?_⟩
                refine tkS 6 247 (v := .int .i64 (cn : Nat)) hkv rfl rfl (by kernel_rfl) (by kernel_rfl) (by kernel_rfl) (by kernel_rfl) (wanted_some (j := 3) (d := 244) (bb := false) rfl rfl rfl (by simp [eval_put_ne, eval_put_eq, size_put, hts]) (by simp [size_put, hts])) (fun _ _ _ h => h) (fun U hU => r_lenI (a := kva) (n := cn) (c := kvc) (by simp [eval_put_ne, eval_put_eq, size_put, hts])) ?_
                refine tkS 8 249 (v := .bool false) hkv rfl rfl (by kernel_rfl) (by kernel_rfl) (by kernel_rfl) (by kernel_rfl) (wanted_some (j := 3) (d := 244) (bb := false) rfl rfl rfl (by simp [eval_put_ne, eval_put_eq, size_put, hts]) (by simp [size_put, hts])) (fun _ _ _ h => h) (fun U hU => r_ne3F (p := (cn : Nat)) (by simp [eval_put_ne, eval_put_eq, size_put, hts]) (by simp [eval_put_ne, eval_put_eq, size_put, hts])) ?_
                refine tkS 9 250 (v := .bool false) hkv rfl rfl (by kernel_rfl) (by kernel_rfl) (by kernel_rfl) (by kernel_rfl) (wanted_none rfl) (fun _ _ _ h => h) (fun U hU => r_pickF (by simp [eval_put_ne, eval_put_eq, size_put, hts]) (by simp [eval_put_ne, eval_put_eq, size_put, hts])) ?_
                refine tkS 10 251 (v := .bool false) hkv rfl rfl (by kernel_rfl) (by kernel_rfl) (by kernel_rfl) (by kernel_rfl) (wanted_none rfl) (fun _ _ _ h => h) (fun U hU => r_move (by simp [eval_put_ne, eval_put_eq, size_put, hts])) ?_
                refine tkS 11 252 (v := .pointer (some ⟨db, 0, none⟩)) hkv rfl rfl (by kernel_rfl) (by kernel_rfl) (by kernel_rfl) (by kernel_rfl) (wanted_some (j := 10) (d := 251) (bb := false) rfl rfl rfl (by simp [eval_put_ne, eval_put_eq, size_put, hts]) (by simp [size_put, hts])) (fun _ _ _ h => h) (fun U hU => r_move (by simp [eval_put_ne, eval_put_eq, size_put, hts, e7])) ?_
                refine tkS 14 255 (v := .pointer (some ⟨bx, 0, none⟩)) hkv rfl rfl (by kernel_rfl) (by kernel_rfl) (by kernel_rfl) (by kernel_rfl) (wanted_some (j := 10) (d := 251) (bb := false) rfl rfl rfl (by simp [eval_put_ne, eval_put_eq, size_put, hts]) (by simp [size_put, hts])) (fun _ _ _ h => h) (fun U hU => r_fR0 (by simp [eval_put_ne, eval_put_eq, size_put, hts, e11])) ?_
                refine tkS 15 256 (v := .pointer (some ⟨bx, 0, none⟩)) hkv rfl rfl (by kernel_rfl) (by kernel_rfl) (by kernel_rfl) (by kernel_rfl) (wanted_some (j := 10) (d := 251) (bb := false) rfl rfl rfl (by simp [eval_put_ne, eval_put_eq, size_put, hts]) (by simp [size_put, hts])) (fun _ _ _ h => h) (fun U hU => r_fD0 (by simp [eval_put_ne, eval_put_eq, size_put, hts])) ?_
                refine tkS 16 257 (v := .string (D.strV s9.st)) hkv rfl rfl (by kernel_rfl) (by kernel_rfl) (by kernel_rfl) (by kernel_rfl) (wanted_some (j := 10) (d := 251) (bb := false) rfl rfl rfl (by simp [eval_put_ne, eval_put_eq, size_put, hts]) (by simp [size_put, hts])) (fun _ _ _ h => h) (fun U hU => r_ldR9 (p := ⟨bx, 0, none⟩) (by simp [eval_put_ne, eval_put_eq, size_put, hts]) ((hU.blk hZ0.hb.blk (fun h => h)).cell 0)) ?_
                refine oneCS 12 253 (by kernel_rfl) rfl rfl (wanted_some (j := 10) (d := 251) (bb := false) rfl rfl rfl (by simp [eval_put_ne, eval_put_eq, size_put, hts]) (by simp [size_put, hts])) (r_call1 Try.func26 (by kernel_rfl) rfl rfl (by simp [eval_put_ne, eval_put_eq, size_put, hts])) ((hZ0.same hkv).pw.dimage) ?_
                rintro e v2 ⟨ig, rfl, hib, -, hk2⟩
                have hS2 : Kept (fun _ => False) w0 v2 := hkv.trans hk2 (fun _ _ h => h)
                refine ⟨_, rfl, hS2, ?_⟩
                have hcv : Cells v2 ig 0 s9.st := by
                  have := hib.cells 0 s9.st.length
                  rw [List.drop_zero, List.take_length] at this
                  exact this
                refine oneVS 13 254 (v := .string (D.strV s9.st)) (by kernel_rfl) rfl rfl (wanted_some (j := 10) (d := 251) (bb := false) rfl rfl rfl (by simp [eval_put_ne, eval_put_eq, size_put, hts]) (by simp [size_put, hts])) (D.r_str (len := 20 * 64) (cap := 20 * 64) (b := ig) (so := 0) (by simp [eval_put_ne, eval_put_eq, size_put, hts]) hcv (by rw [hZ0.hb.rf.dok.hl]) hZ0.hb.rf.dok.hB) hS2 ?_
                refine tkS 17 258 (v := .bool false) hS2 rfl rfl (by kernel_rfl) (by kernel_rfl) (by kernel_rfl) (by kernel_rfl) (wanted_some (j := 10) (d := 251) (bb := false) rfl rfl rfl (by simp [eval_put_ne, eval_put_eq, size_put, hts]) (by simp [size_put, hts])) (fun _ _ _ h => h) (fun U hU => r_ne9F (p := D.strV s9.st) (by simp [eval_put_ne, eval_put_eq, size_put, hts]) (by simp [eval_put_ne, eval_put_eq, size_put, hts])) ?_
                refine tkS 18 259 (v := .bool false) hS2 rfl rfl (by kernel_rfl) (by kernel_rfl) (by kernel_rfl) (by kernel_rfl) (wanted_none rfl) (fun _ _ _ h => h) (fun U hU => r_pickF (by simp [eval_put_ne, eval_put_eq, size_put, hts]) (by simp [eval_put_ne, eval_put_eq, size_put, hts])) ?_
                refine doneS (by kernel_rfl) ?_
                rw [hfr.out]
                have HZ2 := hide (hZ0.same hS2)
                clear hfr e7 e9 e11 e21 e22 e31 hts hS0 hheap hkw hZ0 hS2 hk2 hib hcv hown hkv
                simp only [put_lit, put_none, List.set_cons_succ, List.set_cons_zero]
                go_wp2
                go_roundw
                case rel => exact ⟨k + 1, s9, l9, rv9, hv9, _, H9, T9, by simp, by omega, by have := Hk49.out; omega, HZ2⟩
                case measure => simp [intOf]; omega
          · as_aux_lemma =>
            have e1 : w4.cell? ⟨ob, 1, none⟩ = some (.int .i64 nn) := HO4.out.cell 1
            go_wp2_with (first | (with_reducible refine stop_load 37 ?_) | fail)
            refine hide ?_
            refine aw_load (M := refPL s rv fr hv dv) Try.agg37 rfl HS4.out.hb.blk (by rw [refPL_len]; decide) rfl ?_
            try simp only [put_lit, put_none, List.set_cons_succ, List.set_cons_zero]
            go_wp2_with fail
            refine (rpget_at w4 0 20 s rv fr n hv dv H T HS4.out.hb.rf nn).mono ?_
            rintro e w5 ⟨rfl, hk5⟩
            have HS5 := hide (HS4.out.same hk5)
            have HO5 := hide (hk5.blk HO4.out (fun h => h))
            clear hk5 e1
            have e1 : w5.cell? ⟨ob, 1, none⟩ = some (.int .i64 nn) := HO5.out.cell 1
            have hget := HS5.out.pw.getI HS5.out.rel nn (by have := HB1.out; omega)
            rw [HS5.out.lf] at hget
            have HGet := hide hget
            obtain ⟨V, hV⟩ : ∃ V, rgV s fr H nn = V := ⟨_, rfl⟩
            rw [hV] at HGet ⊢
            obtain ⟨tx, htx⟩ : ∃ tx, strN V = tx := ⟨_, rfl⟩
            have HTx := hide htx
            rw [htx]
            clear hget hV htx
            go_wp2_with fail
            refine HGet.out.mono ?_
            rintro e w9 ⟨⟨ga, gn, gc⟩, rfl, hsrc, -, hk9⟩
            have HSrc : Hid (Src w9 (.slice ga gn gc) V) := hide hsrc
            have HS9 := hide (HS5.out.same hk9)
            clear hsrc hk9
            go_wp2_with (first | (with_reducible refine stop_convert 41 9 ?_) | fail)
            refine hide ?_
            refine wpList_run rfl (r_strS (v := .slice ga gn gc) (B := V) rfl HSrc.out) ?_
            rw [HTx.out]
            try simp only [put_lit, put_none, List.set_cons_succ, List.set_cons_zero]
            go_wp2_with (first | (with_reducible refine stop_bin .neq ?_) | fail)
            refine hide ?_
            refine wpList_run rfl (r_ne9F (p := tx) rfl rfl) ?_
            try simp only [put_lit, put_none, List.set_cons_succ, List.set_cons_zero]
            obtain ⟨s9, l9, rv9, hv9, dv9, H9, T9, HZ⟩ : ∃ s9 l9 rv9 hv9 dv9 H9 T9, Hid (LSt W w9 db b bx fr n (k + 1) s9 l9 rv9 hv9 dv9 H9 T9 0) := ⟨_, _, _, _, _, _, _, hide
              { pw := HS9.out.pw, hb := HS9.out.hb, rel := HS9.out.rel, lf := HS9.out.lf, ln := HS9.out.ln, ge := HS9.out.ge, bd := HS9.out.bd.same }⟩
            obtain ⟨E9, hE9⟩ : ∃ E9 : Int, rgE s H nn = E9 := ⟨_, rfl⟩
            rw [hE9]
            clear hE9
            clear HS9 HSrc HTx HGet e1 HS5 HO5 HS4 HO4 HWs HKs Hnn Hobx Hw20 HB1
            obtain ⟨dg, dcap, CT, rfl, -⟩ := id HZ.out.hb.rf.hd
            have HTl : Hid (T9.length = n) := hide HZ.out.hb.rf.lens.2
            have HDl : Hid (l9.dirty.length ≤ 1000) := hide (by have := HZ.out.bd.d; have := Hk49.out; omega)
            have c7 : w9.cell? ⟨bx, 7, none⟩ = some (.slice (some ⟨dg, 0, none⟩) n dcap) := HZ.out.hb.blk.cell 7
            go_wp2
            clear c7
            go_loopw [31, 218] (fun o i wq => ∃ j : Nat, i = .int .i64 j ∧ j ≤ n ∧ o = .int .i64 ((dBel l9.dirty (j : Nat)).length : Nat) ∧ Hid (Kept (fun _ => False) w9 wq)) (fun _ i _ => n - (intOf i).toNat)
            case atStart => exact ⟨0, rfl, Nat.zero_le _, by rw [show ((0 : Nat) : Int) = 0 from rfl, dBel_none (fun e he => (HZ.out.rel.kd e he).1)]; rfl, hide (Kept.refl _ _)⟩
            case round =>
              obtain ⟨j, rfl, hj, rfl, HKq⟩ := hrel
              obtain ⟨cn, hcn⟩ : ∃ cn, (dBel l9.dirty (j : Nat)).length = cn := ⟨_, rfl⟩
              rw [hcn]
              have Hcn := hide hcn
              clear hcn
              by_cases hjn : j < n
              · have hjI : (j : Int) < (n : Int) := by omega
                have hn20 : n ≤ 20 := by have := HFit.out; omega
                have hjL : j < l9.n := by rw [HZ.out.ln]; exact hjn
                have HjL := hide hjL
                have c0 : wr.cell? ⟨dg, j, none⟩ = some (.bool (T9.getD j false)) := by
                  obtain ⟨g2, cap2, C2, he2, hb2, -⟩ := (HZ.out.same HKq.out).hb.rf.hd
                  cases he2
                  have hjT : j < T9.length := by rw [HTl.out]; exact hjn
                  rw [hb2.cell, List.getElem?_append_left (by rw [TV_length]; exact hjT), TV_get hjT]
                  simp [hjT]
                clear hjL
                cases hb : T9.getD j false with
                | false =>
                  rw [hb] at c0
                  have Hst := hide (HZ.out.rel.cntN HjL.out hb)
                  clear hb
                  go_wp2
                  go_roundw
                  case rel => exact ⟨j + 1, by simp, by omega, by rw [Hst.out, Hcn.out], HKq⟩
                  case measure => simp [intOf]; omega
                | true =>
                  rw [hb] at c0
                  obtain ⟨hc1, xx, hc2⟩ := HZ.out.rel.cnt HjL.out hb
                  rw [Hcn.out] at hc1 hc2
                  have Hc1 := hide hc1
                  have Hc2 := hide hc2
                  have hcd := (List.getElem?_eq_some_iff.1 hc2).1
                  clear hb hc1 hc2
                  go_wp2_with fail
                  refine ((HZ.out.same HKq.out).pw.dirty (by have := HDl.out; omega)).mono ?_
                  rintro e wd ⟨kv, rfl, hown, -, hkd⟩
                  rcases ownsRow_blk hown with ⟨rfl, h0, _⟩ | ⟨kg, kc, kC, rfl, hkb, -⟩
                  · omega
                  · have d0 : wd.cell? ⟨kg, cn, none⟩ = some (.int .i64 j) := by
                      rw [hkb.cell, List.getElem?_append_left (by rw [List.length_map]; exact hcd), List.getElem?_map, Hc2.out]
                      rfl
                    have HKd := hide (HKq.out.trans hkd (fun _ _ h => h))
                    obtain ⟨dl, hdl⟩ : ∃ dl, l9.dirty.length = dl := ⟨_, rfl⟩
                    have hdl2 := HDl.out
                    rw [hdl] at hcd hdl2 ⊢
                    have hcI : ¬ ((dl : Int) ≤ (cn : Int)) := by omega
                    have hcJ : (cn : Int) < (dl : Int) := by omega
                    have hwc : IntKind.i64.wrap ((cn : Int) + 1) = ((cn + 1 : Nat) : Int) := by rw [IntKind.wrap_i64]; omega
                    clear hown hkb hkd c0 hdl
                    go_wp2
                    go_roundw
                    case rel => exact ⟨j + 1, by simp, by omega, by rw [Hc1.out]; simp, HKd⟩
                    case measure => simp [intOf]; omega
              · obtain rfl : n = j := by omega
                have Hcl : Hid (l9.dirty.length = cn) := hide (by
                  have := HZ.out.rel.cntA
                  rw [HZ.out.ln] at this
                  rw [← Hcn.out, this])
                go_wp2_with fail
                refine hold_frame (p := fun fr => Code.wp Try.prog _ _ fr _) ?_
                intro fa hfr
                have e7 : fa.eval (.tmp 7) = .pointer (some ⟨db, 0, none⟩) := by rw [hfr.out]; rfl
                have e9 : fa.eval (.tmp 9) = .pointer (some ⟨b, 0, none⟩) := by rw [hfr.out]; rfl
                have e11 : fa.eval (.tmp 11) = .pointer (some ⟨bx, 0, none⟩) := by rw [hfr.out]; rfl
                have e21 : fa.eval (.tmp 21) = .int .i64 E9 := by rw [hfr.out]; rfl
                have e22 : fa.eval (.tmp 22) = .int .i64 E9 := by rw [hfr.out]; rfl
                have e31 : fa.eval (.tmp 31) = .int .i64 cn := by rw [hfr.out]; rfl
                have hts : fa.tmps.size = 261 := by rw [hfr.out]; rfl
                refine region_S0 99 Try.mixed ?_
                intro w0 hkw hheap
                have hS0 : Kept (fun _ => False) w0 w0 := Kept.refl (fun _ => False) w0
                have hZ0 := HZ.out.same (HKq.out.trans hkw (fun _ _ h => h))
                refine ⟨Kept (fun _ => False) w0, ?_⟩
                refine tkS 0 241 (v := .int .i64 E9) hS0 rfl rfl (by kernel_rfl) (by kernel_rfl) (by kernel_rfl) (by kernel_rfl) (wanted_none rfl) (fun _ _ _ h => h) (fun U hU => r_move (by simp [eval_put_ne, eval_put_eq, size_put, hts, e22])) ?_
                refine tkS 1 242 (v := .int .i64 E9) hS0 rfl rfl (by kernel_rfl) (by kernel_rfl) (by kernel_rfl) (by kernel_rfl) (wanted_none rfl) (fun _ _ _ h => h) (fun U hU => r_move (by simp [eval_put_ne, eval_put_eq, size_put, hts, e21])) ?_
                refine tkS 2 243 (v := .bool false) hS0 rfl rfl (by kernel_rfl) (by kernel_rfl) (by kernel_rfl) (by kernel_rfl) (wanted_none rfl) (fun _ _ _ h => h) (fun U hU => r_ne3F (p := E9) (by simp [eval_put_ne, eval_put_eq, size_put, hts]) (by simp [eval_put_ne, eval_put_eq, size_put, hts])) ?_
                refine tkS 3 244 (v := .bool false) hS0 rfl rfl (by kernel_rfl) (by kernel_rfl) (by kernel_rfl) (by kernel_rfl) (wanted_none rfl) (fun _ _ _ h => h) (fun U hU => r_move (by simp [eval_put_ne, eval_put_eq, size_put, hts])) ?_
                refine tkS 4 245 (v := .pointer (some ⟨b, 0, none⟩)) hS0 rfl rfl (by kernel_rfl) (by kernel_rfl) (by kernel_rfl) (by kernel_rfl) (wanted_some (j := 3) (d := 244) (bb := false) rfl rfl rfl (by simp [eval_put_ne, eval_put_eq, size_put, hts]) (by simp [size_put, hts])) (fun _ _ _ h => h) (fun U hU => r_move (by simp [eval_put_ne, eval_put_eq, size_put, hts, e9])) ?_
                refine tkS 7 248 (v := .int .i64 (cn : Nat)) hS0 rfl rfl (by kernel_rfl) (by kernel_rfl) (by kernel_rfl) (by kernel_rfl) (wanted_some (j := 3) (d := 244) (bb := false) rfl rfl rfl (by simp [eval_put_ne, eval_put_eq, size_put, hts]) (by simp [size_put, hts])) (fun _ _ _ h => h) (fun U hU => r_move (by simp [eval_put_ne, eval_put_eq, size_put, hts, e31])) ?_
                refine oneCS 5 246 (by kernel_rfl) rfl rfl (wanted_some (j := 3) (d := 244) (bb := false) rfl rfl rfl (by simp [eval_put_ne, eval_put_eq, size_put, hts]) (by simp [size_put, hts])) (r_call1 Try.func16 (by kernel_rfl) rfl rfl (by simp [eval_put_ne, eval_put_eq, size_put, hts])) (hZ0.pw.dirty (by have := HDl.out; omega)) ?_
                rintro e v1 ⟨kv, rfl, hown, -, hkv⟩
                obtain ⟨kva, kvc, rfl⟩ := ownsRow_slice hown
                rw [Hcl.out]
                refine ⟨_, rfl, hkv, ?_⟩
                refine tkS 6 247 (v := .int .i64 (cn : Nat)) hkv rfl rfl (by kernel_rfl) (by kernel_rfl) (by kernel_rfl) (by kernel_rfl) (wanted_some (j := 3) (d := 244) (bb := false) rfl rfl rfl (by simp [eval_put_ne, eval_put_eq, size_put, hts]) (by simp [size_put, hts])) (fun _ _ _ h => h) (fun U hU => r_lenI (a := kva) (n := cn) (c := kvc) (by simp [eval_put_ne, eval_put_eq, size_put, hts])) ?_
                refine tkS 8 249 (v := .bool false) hkv rfl rfl (by kernel_rfl) (by kernel_rfl) (by kernel_rfl) (by kernel_rfl) (wanted_some (j := 3) (d := 244) (bb := false) rfl rfl rfl (by simp [eval_put_ne, eval_put_eq, size_put, hts]) (by simp [size_put, hts])) (fun _ _ _ h => h) (fun U hU => r_ne3F (p := (cn : Nat)) (by simp [eval_put_ne, eval_put_eq, size_put, hts]) (by simp [eval_put_ne, eval_put_eq, size_put, hts])) ?_
                refine tkS 9 250 (v := .bool false) hkv rfl rfl (by kernel_rfl) (by kernel_rfl) (by kernel_rfl) (by kernel_rfl) (wanted_none rfl) (fun _ _ _ h => h) (fun U hU => r_pickF (by simp [eval_put_ne, eval_put_eq, size_put, hts]) (by simp [eval_put_ne, eval_put_eq, size_put, hts])) ?_
                refine tkS 10 251 (v := .bool false) hkv rfl rfl (by kernel_rfl) (by kernel_rfl) (by kernel_rfl) (by kernel_rfl) (wanted_none rfl) (fun _ _ _ h => h) (fun U hU => r_move (by simp [eval_put_ne, eval_put_eq, size_put, hts])) ?_
                refine tkS 11 252 (v := .pointer (some ⟨db, 0, none⟩)) hkv rfl rfl (by kernel_rfl) (by kernel_rfl) (by kernel_rfl) (by kernel_rfl) (wanted_some (j := 10) (d := 251) (bb := false) rfl rfl rfl (by simp [eval_put_ne, eval_put_eq, size_put, hts]) (by simp [size_put, hts])) (fun _ _ _ h => h) (fun U hU => r_move (by simp [eval_put_ne, eval_put_eq, size_put, hts, e7])) ?_
                refine tkS 14 255 (v := .pointer (some ⟨bx, 0, none⟩)) hkv rfl rfl (by kernel_rfl) (by kernel_rfl) (by kernel_rfl) (by kernel_rfl) (wanted_some (j := 10) (d := 251) (bb := false) rfl rfl rfl (by simp [eval_put_ne, eval_put_eq, size_put, hts]) (by simp [size_put, hts])) (fun _ _ _ h => h) (fun U hU => r_fR0 (by simp [eval_put_ne, eval_put_eq, size_put, hts, e11])) ?_
                refine tkS 15 256 (v := .pointer (some ⟨bx, 0, none⟩)) hkv rfl rfl (by kernel_rfl) (by kernel_rfl) (by kernel_rfl) (by kernel_rfl) (wanted_some (j := 10) (d := 251) (bb := false) rfl rfl rfl (by simp [eval_put_ne, eval_put_eq, size_put, hts]) (by simp [size_put, hts])) (fun _ _ _ h => h) (fun U hU => r_fD0 (by simp [eval_put_ne, eval_put_eq, size_put, hts])) ?_
                refine tkS 16 257 (v := .string (D.strV s9.st)) hkv rfl rfl (by kernel_rfl) (by kernel_rfl) (by kernel_rfl) (by kernel_rfl) (wanted_some (j := 10) (d := 251) (bb := false) rfl rfl rfl (by simp [eval_put_ne, eval_put_eq, size_put, hts]) (by simp [size_put, hts])) (fun _ _ _ h => h) (fun U hU => r_ldR9 (p := ⟨bx, 0, none⟩) (by simp [eval_put_ne, eval_put_eq, size_put, hts]) ((hU.blk hZ0.hb.blk (fun h => h)).cell 0)) ?_
                refine oneCS 12 253 (by kernel_rfl) rfl rfl (wanted_some (j := 10) (d := 251) (bb := false) rfl rfl rfl (by simp [eval_put_ne, eval_put_eq, size_put, hts]) (by simp [size_put, hts])) (r_call1 Try.func26 (by kernel_rfl) rfl rfl (by simp [eval_put_ne, eval_put_eq, size_put, hts])) ((hZ0.same hkv).pw.dimage) ?_
                rintro e v2 ⟨ig, rfl, hib, -, hk2⟩
                have hS2 : Kept (fun _ => False) w0 v2 := hkv.trans hk2 (fun _ _ h => h)
                refine ⟨_, rfl, hS2, ?_⟩
                have hcv : Cells v2 ig 0 s9.st := by
                  have := hib.cells 0 s9.st.length
                  rw [List.drop_zero, List.take_length] at this
                  exact this
                refine oneVS 13 254 (v := .string (D.strV s9.st)) (by kernel_rfl) rfl rfl (wanted_some (j := 10) (d := 251) (bb := false) rfl rfl rfl (by simp [eval_put_ne, eval_put_eq, size_put, hts]) (by simp [size_put, hts])) (D.r_str (len := 20 * 64) (cap := 20 * 64) (b := ig) (so := 0) (by simp [eval_put_ne, eval_put_eq, size_put, hts]) hcv (by rw [hZ0.hb.rf.dok.hl]) hZ0.hb.rf.dok.hB) hS2 ?_
                refine tkS 17 258 (v := .bool false) hS2 rfl rfl (by kernel_rfl) (by kernel_rfl) (by kernel_rfl) (by kernel_rfl) (wanted_some (j := 10) (d := 251) (bb := false) rfl rfl rfl (by simp [eval_put_ne, eval_put_eq, size_put, hts]) (by simp [size_put, hts])) (fun _ _ _ h => h) (fun U hU => r_ne9F (p := D.strV s9.st) (by simp [eval_put_ne, eval_put_eq, size_put, hts]) (by simp [eval_put_ne, eval_put_eq, size_put, hts])) ?_
                refine tkS 18 259 (v := .bool false) hS2 rfl rfl (by kernel_rfl) (by kernel_rfl) (by kernel_rfl) (by kernel_rfl) (wanted_none rfl) (fun _ _ _ h => h) (fun U hU => r_pickF (by simp [eval_put_ne, eval_put_eq, size_put, hts]) (by simp [eval_put_ne, eval_put_eq, size_put, hts])) ?_
                refine doneS (by kernel_rfl) ?_
                rw [hfr.out]
                have HZ2 := hide (hZ0.same hS2)
                clear hfr e7 e9 e11 e21 e22 e31 hts hS0 hheap hkw hZ0 hS2 hk2 hib hcv hown hkv
                simp only [put_lit, put_none, List.set_cons_succ, List.set_cons_zero]
                go_wp2
                go_roundw
                case rel => exact ⟨k + 1, s9, l9, rv9, hv9, _, H9, T9, by simp, by omega, by have := Hk49.out; omega, HZ2⟩
                case measure => simp [intOf]; omega
          · as_aux_lemma =>
            have HSv : Hid (svE fr n H T s = l.saveE s ∧ svD fr n H T s = l.saveD s ∧ PrRel (l.saveP s) H (svT fr n H T s)) := hide (by
              rw [← HS4.out.lf, ← HS4.out.ln]
              exact ⟨HS4.out.rel.saveE, HS4.out.rel.saveD, HS4.out.rel.save⟩)
            go_wp2_with (first | (with_reducible refine stop_load 37 ?_) | fail)
            refine hide ?_
            refine aw_load (M := refPL s rv fr hv dv) Try.agg37 rfl HS4.out.hb.blk (by rw [refPL_len]; decide) rfl ?_
            try simp only [put_lit, put_none, List.set_cons_succ, List.set_cons_zero]
            go_wp2_with fail
            refine (rpsave_at w4 0 20 s rv fr n hv dv H T HS4.out.hb.rf (Nat.zero_le _) HS4.out.rel.whole (by have := HB1.out; omega) (by have := HB1.out; omega)).mono ?_
            rintro e w5 ⟨rv5, dv5, rfl, hr5, hk5⟩
            rw [HSv.out.1, HSv.out.2.1]
            rw [HSv.out.2.1] at hr5
            obtain ⟨s2, hs2⟩ : ∃ s2, l.saveD s = s2 := ⟨_, rfl⟩
            rw [hs2] at hr5 ⊢
            have Hs2 := hide hs2
            clear hs2
            have HS5 := hide (HS4.out.same hk5)
            have HO5 := hide (hk5.blk HO4.out (fun h => h))
            have HR5 := hide hr5
            clear hk5 hr5
            go_wp2_with (first | (with_reducible refine stop_store 37 ?_) | fail)
            refine hide ?_
            refine aw_store (M := refPL s2 rv5 fr hv dv5) Try.agg37 rfl rfl rfl HR5.out.one HS5.out.hb.blk (by rw [refPL_len]; decide) ?_
            intro w6 hw6 hk6 hz6
            rw [put_whole _ _ (by rw [refPL_len, refPL_len])] at hw6
            obtain ⟨hp6, hb6⟩ := HS5.out.store HR5.out hw6 hk6
            have HP6 := hide hp6
            have HB6 := hide hb6
            have HO6 := hide (hk6.blk HO5.out Hobx.out)
            clear hw6 hk6 hz6 hp6 hb6 HS5 HR5 HO5
            try simp only [put_lit, put_none, List.set_cons_succ, List.set_cons_zero]
            go_wp2_with fail
            refine (HP6.out.save (by have := HB1.out; omega) (by have := HB1.out; omega) (by have := HB1.out; omega) HS4.out.rel.kd).mono ?_
            rintro e w9 ⟨rfl, hp9, hT9⟩
            have hbd := HS4.out.bd.save Hk49.out
            rw [Hs2.out] at hp9 hbd
            obtain ⟨s9, l9, rv9, hv9, dv9, H9, T9, HZ⟩ : ∃ s9 l9 rv9 hv9 dv9 H9 T9, Hid (LSt W w9 db b bx fr n (k + 1) s9 l9 rv9 hv9 dv9 H9 T9 0) := ⟨_, _, _, _, _, _, _, hide
              { pw := hp9, hb := HB6.out.keptZ hT9, rel := HSv.out.2.2, lf := by rw [(saveP_fr _ _).1]; exact HS4.out.lf, ln := by rw [(saveP_fr _ _).2]; exact HS4.out.ln, ge := HS4.out.ge, bd := hbd }⟩
            obtain ⟨E9, hE9⟩ : ∃ E9 : Int, l.saveE s = E9 := ⟨_, rfl⟩
            rw [hE9]
            clear hE9
            clear hp9 hT9 hbd HSv Hs2 HP6 HB6 HO6 HS4 HO4 HWs HKs Hnn Hobx Hw20 HB1
            obtain ⟨dg, dcap, CT, rfl, -⟩ := id HZ.out.hb.rf.hd
            have HTl : Hid (T9.length = n) := hide HZ.out.hb.rf.lens.2
            have HDl : Hid (l9.dirty.length ≤ 1000) := hide (by have := HZ.out.bd.d; have := Hk49.out; omega)
            have c7 : w9.cell? ⟨bx, 7, none⟩ = some (.slice (some ⟨dg, 0, none⟩) n dcap) := HZ.out.hb.blk.cell 7
            go_wp2
            clear c7
            go_loopw [31, 218] (fun o i wq => ∃ j : Nat, i = .int .i64 j ∧ j ≤ n ∧ o = .int .i64 ((dBel l9.dirty (j : Nat)).length : Nat) ∧ Hid (Kept (fun _ => False) w9 wq)) (fun _ i _ => n - (intOf i).toNat)
            case atStart => exact ⟨0, rfl, Nat.zero_le _, by rw [show ((0 : Nat) : Int) = 0 from rfl, dBel_none (fun e he => (HZ.out.rel.kd e he).1)]; rfl, hide (Kept.refl _ _)⟩
            case round =>
              obtain ⟨j, rfl, hj, rfl, HKq⟩ := hrel
              obtain ⟨cn, hcn⟩ : ∃ cn, (dBel l9.dirty (j : Nat)).length = cn := ⟨_, rfl⟩
              rw [hcn]
              have Hcn := hide hcn
              clear hcn
              by_cases hjn : j < n
              · have hjI : (j : Int) < (n : Int) := by omega
                have hn20 : n ≤ 20 := by have := HFit.out; omega
                have hjL : j < l9.n := by rw [HZ.out.ln]; exact hjn
                have HjL := hide hjL
                have c0 : wr.cell? ⟨dg, j, none⟩ = some (.bool (T9.getD j false)) := by
                  obtain ⟨g2, cap2, C2, he2, hb2, -⟩ := (HZ.out.same HKq.out).hb.rf.hd
                  cases he2
                  have hjT : j < T9.length := by rw [HTl.out]; exact hjn
                  rw [hb2.cell, List.getElem?_append_left (by rw [TV_length]; exact hjT), TV_get hjT]
                  simp [hjT]
                clear hjL
                cases hb : T9.getD j false with
                | false =>
                  rw [hb] at c0
                  have Hst := hide (HZ.out.rel.cntN HjL.out hb)
                  clear hb
                  go_wp2
                  go_roundw
                  case rel => exact ⟨j + 1, by simp, by omega, by rw [Hst.out, Hcn.out], HKq⟩
                  case measure => simp [intOf]; omega
                | true =>
                  rw [hb] at c0
                  obtain ⟨hc1, xx, hc2⟩ := HZ.out.rel.cnt HjL.out hb
                  rw [Hcn.out] at hc1 hc2
                  have Hc1 := hide hc1
                  have Hc2 := hide hc2
                  have hcd := (List.getElem?_eq_some_iff.1 hc2).1
                  clear hb hc1 hc2
                  go_wp2_with fail
                  refine ((HZ.out.same HKq.out).pw.dirty (by have := HDl.out; omega)).mono ?_
                  rintro e wd ⟨kv, rfl, hown, -, hkd⟩
                  rcases ownsRow_blk hown with ⟨rfl, h0, _⟩ | ⟨kg, kc, kC, rfl, hkb, -⟩
                  · omega
                  · have d0 : wd.cell? ⟨kg, cn, none⟩ = some (.int .i64 j) := by
                      rw [hkb.cell, List.getElem?_append_left (by rw [List.length_map]; exact hcd), List.getElem?_map, Hc2.out]
                      rfl
                    have HKd := hide (HKq.out.trans hkd (fun _ _ h => h))
                    obtain ⟨dl, hdl⟩ : ∃ dl, l9.dirty.length = dl := ⟨_, rfl⟩
                    have hdl2 := HDl.out
                    rw [hdl] at hcd hdl2 ⊢
                    have hcI : ¬ ((dl : Int) ≤ (cn : Int)) := by omega
                    have hcJ : (cn : Int) < (dl : Int) := by omega
                    have hwc : IntKind.i64.wrap ((cn : Int) + 1) = ((cn + 1 : Nat) : Int) := by rw [IntKind.wrap_i64]; omega
                    clear hown hkb hkd c0 hdl
                    go_wp2
                    go_roundw
                    case rel => exact ⟨j + 1, by simp, by omega, by rw [Hc1.out]; simp, HKd⟩
                    case measure => simp [intOf]; omega
              · obtain rfl : n = j := by omega
                have Hcl : Hid (l9.dirty.length = cn) := hide (by
                  have := HZ.out.rel.cntA
                  rw [HZ.out.ln] at this
                  rw [← Hcn.out, this])
                go_wp2_with fail
                refine hold_frame (p := fun fr => Code.wp Try.prog _ _ fr _) ?_
                intro fa hfr
                have e7 : fa.eval (.tmp 7) = .pointer (some ⟨db, 0, none⟩) := by rw [hfr.out]; rfl
                have e9 : fa.eval (.tmp 9) = .pointer (some ⟨b, 0, none⟩) := by rw [hfr.out]; rfl
                have e11 : fa.eval (.tmp 11) = .pointer (some ⟨bx, 0, none⟩) := by rw [hfr.out]; rfl
                have e21 : fa.eval (.tmp 21) = .int .i64 E9 := by rw [hfr.out]; rfl
                have e22 : fa.eval (.tmp 22) = .int .i64 E9 := by rw [hfr.out]; rfl
                have e31 : fa.eval (.tmp 31) = .int .i64 cn := by rw [hfr.out]; rfl
                have hts : fa.tmps.size = 261 := by rw [hfr.out]; rfl
                refine region_S0 99 Try.mixed ?_
                intro w0 hkw hheap
                have hS0 : Kept (fun _ => False) w0 w0 := Kept.refl (fun _ => False) w0
                have hZ0 := HZ.out.same (HKq.out.trans hkw (fun _ _ h => h))
                refine ⟨Kept (fun _ => False) w0, ?_⟩
                refine tkS 0 241 (v := .int .i64 E9) hS0 rfl rfl (by kernel_rfl) (by kernel_rfl) (by kernel_rfl) (by kernel_rfl) (wanted_none rfl) (fun _ _ _ h => h) (fun U hU => r_move (by simp [eval_put_ne, eval_put_eq, size_put, hts, e22])) ?_
                refine tkS 1 242 (v := .int .i64 E9) hS0 rfl rfl (by kernel_rfl) (by kernel_rfl) (by kernel_rfl) (by kernel_rfl) (wanted_none rfl) (fun _ _ _ h => h) (fun U hU => r_move (by simp [eval_put_ne, eval_put_eq, size_put, hts, e21])) ?_
                refine tkS 2 243 (v := .bool false) hS0 rfl rfl (by kernel_rfl) (by kernel_rfl) (by kernel_rfl) (by kernel_rfl) (wanted_none rfl) (fun _ _ _ h => h) (fun U hU => r_ne3F (p := E9) (by simp [eval_put_ne, eval_put_eq, size_put, hts]) (by simp [eval_put_ne, eval_put_eq, size_put, hts])) ?_
                refine tkS 3 244 (v := .bool false) hS0 rfl rfl (by kernel_rfl) (by kernel_rfl) (by kernel_rfl) (by kernel_rfl) (wanted_none rfl) (fun _ _ _ h => h) (fun U hU => r_move (by simp [eval_put_ne, eval_put_eq, size_put, hts])) ?_
                refine tkS 4 245 (v := .pointer (some ⟨b, 0, none⟩)) hS0 rfl rfl (by kernel_rfl) (by kernel_rfl) (by kernel_rfl) (by kernel_rfl) (wanted_some (j := 3) (d := 244) (bb := false) rfl rfl rfl (by simp [eval_put_ne, eval_put_eq, size_put, hts]) (by simp [size_put, hts])) (fun _ _ _ h => h) (fun U hU => r_move (by simp [eval_put_ne, eval_put_eq, size_put, hts, e9])) ?_
                refine tkS 7 248 (v := .int .i64 (cn : Nat)) hS0 rfl rfl (by kernel_rfl) (by kernel_rfl) (by kernel_rfl) (by kernel_rfl) (wanted_some (j := 3) (d := 244) (bb := false) rfl rfl rfl (by simp [eval_put_ne, eval_put_eq, size_put, hts]) (by simp [size_put, hts])) (fun _ _ _ h => h) (fun U hU => r_move (by simp [eval_put_ne, eval_put_eq, size_put, hts, e31])) ?_
                refine oneCS 5 246 (by kernel_rfl) rfl rfl (wanted_some (j := 3) (d := 244) (bb := false) rfl rfl rfl (by simp [eval_put_ne, eval_put_eq, size_put, hts]) (by simp [size_put, hts])) (r_call1 Try.func16 (by kernel_rfl) rfl rfl (by simp [eval_put_ne, eval_put_eq, size_put, hts])) (hZ0.pw.dirty (by have := HDl.out; omega)) ?_
                rintro e v1 ⟨kv, rfl, hown, -, hkv⟩
                obtain ⟨kva, kvc, rfl⟩ := ownsRow_slice hown
                rw [Hcl.out]
                refine ⟨_, rfl, hkv, ?_⟩
                refine tkS 6 247 (v := .int .i64 (cn : Nat)) hkv rfl rfl (by kernel_rfl) (by kernel_rfl) (by kernel_rfl) (by kernel_rfl) (wanted_some (j := 3) (d := 244) (bb := false) rfl rfl rfl (by simp [eval_put_ne, eval_put_eq, size_put, hts]) (by simp [size_put, hts])) (fun _ _ _ h => h) (fun U hU => r_lenI (a := kva) (n := cn) (c := kvc) (by simp [eval_put_ne, eval_put_eq, size_put, hts])) ?_
                refine tkS 8 249 (v := .bool false) hkv rfl rfl (by kernel_rfl) (by kernel_rfl) (by kernel_rfl) (by kernel_rfl) (wanted_some (j := 3) (d := 244) (bb := false) rfl rfl rfl (by simp [eval_put_ne, eval_put_eq, size_put, hts]) (by simp [size_put, hts])) (fun _ _ _ h => h) (fun U hU => r_ne3F (p := (cn : Nat)) (by simp [eval_put_ne, eval_put_eq, size_put, hts]) (by simp [eval_put_ne, eval_put_eq, size_put, hts])) ?_
                refine tkS 9 250 (v := .bool false) hkv rfl rfl (by kernel_rfl) (by kernel_rfl) (by kernel_rfl) (by kernel_rfl) (wanted_none rfl) (fun _ _ _ h => h) (fun U hU => r_pickF (by simp [eval_put_ne, eval_put_eq, size_put, hts]) (by simp [eval_put_ne, eval_put_eq, size_put, hts])) ?_
                refine tkS 10 251 (v := .bool false) hkv rfl rfl (by kernel_rfl) (by kernel_rfl) (by kernel_rfl) (by kernel_rfl) (wanted_none rfl) (fun _ _ _ h => h) (fun U hU => r_move (by simp [eval_put_ne, eval_put_eq, size_put, hts])) ?_
                refine tkS 11 252 (v := .pointer (some ⟨db, 0, none⟩)) hkv rfl rfl (by kernel_rfl) (by kernel_rfl) (by kernel_rfl) (by kernel_rfl) (wanted_some (j := 10) (d := 251) (bb := false) rfl rfl rfl (by simp [eval_put_ne, eval_put_eq, size_put, hts]) (by simp [size_put, hts])) (fun _ _ _ h => h) (fun U hU => r_move (by simp [eval_put_ne, eval_put_eq, size_put, hts, e7])) ?_
                refine tkS 14 255 (v := .pointer (some ⟨bx, 0, none⟩)) hkv rfl rfl (by kernel_rfl) (by kernel_rfl) (by kernel_rfl) (by kernel_rfl) (wanted_some (j := 10) (d := 251) (bb := false) rfl rfl rfl (by simp [eval_put_ne, eval_put_eq, size_put, hts]) (by simp [size_put, hts])) (fun _ _ _ h => h) (fun U hU => r_fR0 (by simp [eval_put_ne, eval_put_eq, size_put, hts, e11])) ?_
                refine tkS 15 256 (v := .pointer (some ⟨bx, 0, none⟩)) hkv rfl rfl (by kernel_rfl) (by kernel_rfl) (by kernel_rfl) (by kernel_rfl) (wanted_some (j := 10) (d := 251) (bb := false) rfl rfl rfl (by simp [eval_put_ne, eval_put_eq, size_put, hts]) (by simp [size_put, hts])) (fun _ _ _ h => h) (fun U hU => r_fD0 (by simp [eval_put_ne, eval_put_eq, size_put, hts])) ?_
                refine tkS 16 257 (v := .string (D.strV s9.st)) hkv rfl rfl (by kernel_rfl) (by kernel_rfl) (by kernel_rfl) (by kernel_rfl) (wanted_some (j := 10) (d := 251) (bb := false) rfl rfl rfl (by simp [eval_put_ne, eval_put_eq, size_put, hts]) (by simp [size_put, hts])) (fun _ _ _ h => h) (fun U hU => r_ldR9 (p := ⟨bx, 0, none⟩) (by simp [eval_put_ne, eval_put_eq, size_put, hts]) ((hU.blk hZ0.hb.blk (fun h => h)).cell 0)) ?_
                refine oneCS 12 253 (by kernel_rfl) rfl rfl (wanted_some (j := 10) (d := 251) (bb := false) rfl rfl rfl (by simp [eval_put_ne, eval_put_eq, size_put, hts]) (by simp [size_put, hts])) (r_call1 Try.func26 (by kernel_rfl) rfl rfl (by simp [eval_put_ne, eval_put_eq, size_put, hts])) ((hZ0.same hkv).pw.dimage) ?_
                rintro e v2 ⟨ig, rfl, hib, -, hk2⟩
                have hS2 : Kept (fun _ => False) w0 v2 := hkv.trans hk2 (fun _ _ h => h)
                refine ⟨_, rfl, hS2, ?_⟩
                have hcv : Cells v2 ig 0 s9.st := by
                  have := hib.cells 0 s9.st.length
                  rw [List.drop_zero, List.take_length] at this
                  exact this
                refine oneVS 13 254 (v := .string (D.strV s9.st)) (by kernel_rfl) rfl rfl (wanted_some (j := 10) (d := 251) (bb := false) rfl rfl rfl (by simp [eval_put_ne, eval_put_eq, size_put, hts]) (by simp [size_put, hts])) (D.r_str (len := 20 * 64) (cap := 20 * 64) (b := ig) (so := 0) (by simp [eval_put_ne, eval_put_eq, size_put, hts]) hcv (by rw [hZ0.hb.rf.dok.hl]) hZ0.hb.rf.dok.hB) hS2 ?_
                refine tkS 17 258 (v := .bool false) hS2 rfl rfl (by kernel_rfl) (by kernel_rfl) (by kernel_rfl) (by kernel_rfl) (wanted_some (j := 10) (d := 251) (bb := false) rfl rfl rfl (by simp [eval_put_ne, eval_put_eq, size_put, hts]) (by simp [size_put, hts])) (fun _ _ _ h => h) (fun U hU => r_ne9F (p := D.strV s9.st) (by simp [eval_put_ne, eval_put_eq, size_put, hts]) (by simp [eval_put_ne, eval_put_eq, size_put, hts])) ?_
                refine tkS 18 259 (v := .bool false) hS2 rfl rfl (by kernel_rfl) (by kernel_rfl) (by kernel_rfl) (by kernel_rfl) (wanted_none rfl) (fun _ _ _ h => h) (fun U hU => r_pickF (by simp [eval_put_ne, eval_put_eq, size_put, hts]) (by simp [eval_put_ne, eval_put_eq, size_put, hts])) ?_
                refine doneS (by kernel_rfl) ?_
                rw [hfr.out]
                have HZ2 := hide (hZ0.same hS2)
                clear hfr e7 e9 e11 e21 e22 e31 hts hS0 hheap hkw hZ0 hS2 hk2 hib hcv hown hkv
                simp only [put_lit, put_none, List.set_cons_succ, List.set_cons_zero]
                go_wp2
                go_roundw
                case rel => exact ⟨k + 1, s9, l9, rv9, hv9, _, H9, T9, by simp, by omega, by have := Hk49.out; omega, HZ2⟩
                case measure => simp [intOf]; omega
          · as_aux_lemma =>
            go_wp2_with (first | (with_reducible refine stop_load 37 ?_) | fail)
            refine hide ?_
            refine aw_load (M := refPL s rv fr hv dv) Try.agg37 rfl HS4.out.hb.blk (by rw [refPL_len]; decide) rfl ?_
            try simp only [put_lit, put_none, List.set_cons_succ, List.set_cons_zero]
            go_wp2_with fail
            refine (rpdrop_at w4 0 20 s rv fr n hv dv H T HS4.out.hb.rf (Nat.zero_le _)).mono ?_
            rintro e w5 ⟨hv5, dv5, rfl, hr5, hk5⟩
            have HS5 := hide (HS4.out.same hk5)
            have HO5 := hide (hk5.blk HO4.out (fun h => h))
            have HR5 := hide hr5
            clear hk5 hr5
            go_wp2_with (first | (with_reducible refine stop_store 37 ?_) | fail)
            refine hide ?_
            refine aw_store (M := refPL s rv fr hv5 dv5) Try.agg37 rfl rfl rfl HR5.out.one HS5.out.hb.blk (by rw [refPL_len]; decide) ?_
            intro w6 hw6 hk6 hz6
            rw [put_whole _ _ (by rw [refPL_len, refPL_len])] at hw6
            obtain ⟨hp6, hb6⟩ := HS5.out.store HR5.out hw6 hk6
            have HP6 := hide hp6
            have HB6 := hide hb6
            have HO6 := hide (hk6.blk HO5.out Hobx.out)
            clear hw6 hk6 hz6 hp6 hb6 HS5 HR5 HO5
            try simp only [put_lit, put_none, List.set_cons_succ, List.set_cons_zero]
            go_wp2_with fail
            refine HP6.out.drop.mono ?_
            rintro e w9 ⟨rfl, hp9, hT9⟩
            have hrel := PrRel.new l.fr l.n
            have hlf := HS4.out.lf
            have hln := HS4.out.ln
            have hrel2 : PrRel ⟨l.fr, l.n, [], []⟩ (noH n) (noT n) := by rw [← hln]; exact hrel
            obtain ⟨s9, l9, rv9, hv9, dv9, H9, T9, HZ⟩ : ∃ s9 l9 rv9 hv9 dv9 H9 T9, Hid (LSt W w9 db b bx fr n (k + 1) s9 l9 rv9 hv9 dv9 H9 T9 0) := ⟨_, _, _, _, _, _, _, hide
              { pw := hp9, hb := HB6.out.keptZ hT9, rel := hrel2, lf := hlf, ln := hln, ge := HS4.out.ge, bd := HS4.out.bd.drop }⟩
            obtain ⟨E9, hE9⟩ : ∃ E9 : Int, 0 = E9 := ⟨_, rfl⟩
            clear hE9
            clear hp9 hT9 hrel hrel2 hlf hln HP6 HB6 HO6 HS4 HO4 HWs HKs Hnn Hobx Hw20 HB1
            obtain ⟨dg, dcap, CT, rfl, -⟩ := id HZ.out.hb.rf.hd
            have HTl : Hid (T9.length = n) := hide HZ.out.hb.rf.lens.2
            have HDl : Hid (l9.dirty.length ≤ 1000) := hide (by have := HZ.out.bd.d; have := Hk49.out; omega)
            have c7 : w9.cell? ⟨bx, 7, none⟩ = some (.slice (some ⟨dg, 0, none⟩) n dcap) := HZ.out.hb.blk.cell 7
            go_wp2
            clear c7
            go_loopw [31, 218] (fun o i wq => ∃ j : Nat, i = .int .i64 j ∧ j ≤ n ∧ o = .int .i64 ((dBel l9.dirty (j : Nat)).length : Nat) ∧ Hid (Kept (fun _ => False) w9 wq)) (fun _ i _ => n - (intOf i).toNat)
            case atStart => exact ⟨0, rfl, Nat.zero_le _, by rw [show ((0 : Nat) : Int) = 0 from rfl, dBel_none (fun e he => (HZ.out.rel.kd e he).1)]; rfl, hide (Kept.refl _ _)⟩
            case round =>
              obtain ⟨j, rfl, hj, rfl, HKq⟩ := hrel
              obtain ⟨cn, hcn⟩ : ∃ cn, (dBel l9.dirty (j : Nat)).length = cn := ⟨_, rfl⟩
              rw [hcn]
              have Hcn := hide hcn
              clear hcn
              by_cases hjn : j < n
              · have hjI : (j : Int) < (n : Int) := by omega
                have hn20 : n ≤ 20 := by have := HFit.out; omega
                have hjL : j < l9.n := by rw [HZ.out.ln]; exact hjn
                have HjL := hide hjL
                have c0 : wr.cell? ⟨dg, j, none⟩ = some (.bool (T9.getD j false)) := by
                  obtain ⟨g2, cap2, C2, he2, hb2, -⟩ := (HZ.out.same HKq.out).hb.rf.hd
                  cases he2
                  have hjT : j < T9.length := by rw [HTl.out]; exact hjn
                  rw [hb2.cell, List.getElem?_append_left (by rw [TV_length]; exact hjT), TV_get hjT]
                  simp [hjT]
                clear hjL
                cases hb : T9.getD j false with
                | false =>
                  rw [hb] at c0
                  have Hst := hide (HZ.out.rel.cntN HjL.out hb)
                  clear hb
                  go_wp2
                  go_roundw
                  case rel => exact ⟨j + 1, by simp, by omega, by rw [Hst.out, Hcn.out], HKq⟩
                  case measure => simp [intOf]; omega
                | true =>
                  rw [hb] at c0
                  obtain ⟨hc1, xx, hc2⟩ := HZ.out.rel.cnt HjL.out hb
                  rw [Hcn.out] at hc1 hc2
                  have Hc1 := hide hc1
                  have Hc2 := hide hc2
                  have hcd := (List.getElem?_eq_some_iff.1 hc2).1
                  clear hb hc1 hc2
                  go_wp2_with fail
                  refine ((HZ.out.same HKq.out).pw.dirty (by have := HDl.out; omega)).mono ?_
                  rintro e wd ⟨kv, rfl, hown, -, hkd⟩
                  rcases ownsRow_blk hown with ⟨rfl, h0, _⟩ | ⟨kg, kc, kC, rfl, hkb, -⟩
                  · omega
                  · have d0 : wd.cell? ⟨kg, cn, none⟩ = some (.int .i64 j) := by
                      rw [hkb.cell, List.getElem?_append_left (by rw [List.length_map]; exact hcd), List.getElem?_map, Hc2.out]
                      rfl
                    have HKd := hide (HKq.out.trans hkd (fun _ _ h => h))
                    obtain ⟨dl, hdl⟩ : ∃ dl, l9.dirty.length = dl := ⟨_, rfl⟩
                    have hdl2 := HDl.out
                    rw [hdl] at hcd hdl2 ⊢
                    have hcI : ¬ ((dl : Int) ≤ (cn : Int)) := by omega
                    have hcJ : (cn : Int) < (dl : Int) := by omega
                    have hwc : IntKind.i64.wrap ((cn : Int) + 1) = ((cn + 1 : Nat) : Int) := by rw [IntKind.wrap_i64]; omega
                    clear hown hkb hkd c0 hdl
                    go_wp2
                    go_roundw
                    case rel => exact ⟨j + 1, by simp, by omega, by rw [Hc1.out]; simp, HKd⟩
                    case measure => simp [intOf]; omega
              · obtain rfl : n = j := by omega
                have Hcl : Hid (l9.dirty.length = cn) := hide (by
                  have := HZ.out.rel.cntA
                  rw [HZ.out.ln] at this
                  rw [← Hcn.out, this])
                go_wp2_with fail
                refine hold_frame (p := fun fr => Code.wp Try.prog _ _ fr _) ?_
                intro fa hfr
                have e7 : fa.eval (.tmp 7) = .pointer (some ⟨db, 0, none⟩) := by rw [hfr.out]; rfl
                have e9 : fa.eval (.tmp 9) = .pointer (some ⟨b, 0, none⟩) := by rw [hfr.out]; rfl
                have e11 : fa.eval (.tmp 11) = .pointer (some ⟨bx, 0, none⟩) := by rw [hfr.out]; rfl
                have e21 : fa.eval (.tmp 21) = .int .i64 0 := by rw [hfr.out]; rfl
                have e22 : fa.eval (.tmp 22) = .int .i64 0 := by rw [hfr.out]; rfl
                have e31 : fa.eval (.tmp 31) = .int .i64 cn := by rw [hfr.out]; rfl
                have hts : fa.tmps.size = 261 := by rw [hfr.out]; rfl
                refine region_S0 99 Try.mixed ?_
                intro w0 hkw hheap
                have hS0 : Kept (fun _ => False) w0 w0 := Kept.refl (fun _ => False) w0
                have hZ0 := HZ.out.same (HKq.out.trans hkw (fun _ _ h => h))
                refine ⟨Kept (fun _ => False) w0, ?_⟩
                refine tkS 0 241 (v := .int .i64 0) hS0 rfl rfl (by kernel_rfl) (by kernel_rfl) (by kernel_rfl) (by kernel_rfl) (wanted_none rfl) (fun _ _ _ h => h) (fun U hU => r_move (by simp [eval_put_ne, eval_put_eq, size_put, hts, e22])) ?_
                refine tkS 1 242 (v := .int .i64 0) hS0 rfl rfl (by kernel_rfl) (by kernel_rfl) (by kernel_rfl) (by kernel_rfl) (wanted_none rfl) (fun _ _ _ h => h) (fun U hU => r_move (by simp [eval_put_ne, eval_put_eq, size_put, hts, e21])) ?_
                refine tkS 2 243 (v := .bool false) hS0 rfl rfl (by kernel_rfl) (by kernel_rfl) (by kernel_rfl) (by kernel_rfl) (wanted_none rfl) (fun _ _ _ h => h) (fun U hU => r_ne3F (p := 0) (by simp [eval_put_ne, eval_put_eq, size_put, hts]) (by simp [eval_put_ne, eval_put_eq, size_put, hts])) ?_
                refine tkS 3 244 (v := .bool false) hS0 rfl rfl (by kernel_rfl) (by kernel_rfl) (by kernel_rfl) (by kernel_rfl) (wanted_none rfl) (fun _ _ _ h => h) (fun U hU => r_move (by simp [eval_put_ne, eval_put_eq, size_put, hts])) ?_
                refine tkS 4 245 (v := .pointer (some ⟨b, 0, none⟩)) hS0 rfl rfl (by kernel_rfl) (by kernel_rfl) (by kernel_rfl) (by kernel_rfl) (wanted_some (j := 3) (d := 244) (bb := false) rfl rfl rfl (by simp [eval_put_ne, eval_put_eq, size_put, hts]) (by simp [size_put, hts])) (fun _ _ _ h => h) (fun U hU => r_move (by simp [eval_put_ne, eval_put_eq, size_put, hts, e9])) ?_
                refine tkS 7 248 (v := .int .i64 (cn : Nat)) hS0 rfl rfl (by kernel_rfl) (by kernel_rfl) (by kernel_rfl) (by kernel_rfl) (wanted_some (j := 3) (d := 244) (bb := false) rfl rfl rfl (by simp [eval_put_ne, eval_put_eq, size_put, hts]) (by simp [size_put, hts])) (fun _ _ _ h => h) (fun U hU => r_move (by simp [eval_put_ne, eval_put_eq, size_put, hts, e31])) ?_
                refine oneCS 5 246 (by kernel_rfl) rfl rfl (wanted_some (j := 3) (d := 244) (bb := false) rfl rfl rfl (by simp [eval_put_ne, eval_put_eq, size_put, hts]) (by simp [size_put, hts])) (r_call1 Try.func16 (by kernel_rfl) rfl rfl (by simp [eval_put_ne, eval_put_eq, size_put, hts])) (hZ0.pw.dirty (by have := HDl.out; omega)) ?_
                rintro e v1 ⟨kv, rfl, hown, -, hkv⟩
                obtain ⟨kva, kvc, rfl⟩ := ownsRow_slice hown
                rw [Hcl.out]
                refine ⟨_, rfl, hkv, ?_⟩
                refine tkS 6 247 (v := .int .i64 (cn : Nat)) hkv rfl rfl (by kernel_rfl) (by kernel_rfl) (by kernel_rfl) (by kernel_rfl) (wanted_some (j := 3) (d := 244) (bb := false) rfl rfl rfl (by simp [eval_put_ne, eval_put_eq, size_put, hts]) (by simp [size_put, hts])) (fun _ _ _ h => h) (fun U hU => r_lenI (a := kva) (n := cn) (c := kvc) (by simp [eval_put_ne, eval_put_eq, size_put, hts])) ?_
                refine tkS 8 249 (v := .bool false) hkv rfl rfl (by kernel_rfl) (by kernel_rfl) (by kernel_rfl) (by kernel_rfl) (wanted_some (j := 3) (d := 244) (bb := false) rfl rfl rfl (by simp [eval_put_ne, eval_put_eq, size_put, hts]) (by simp [size_put, hts])) (fun _ _ _ h => h) (fun U hU => r_ne3F (p := (cn : Nat)) (by simp [eval_put_ne, eval_put_eq, size_put, hts]) (by simp [eval_put_ne, eval_put_eq, size_put, hts])) ?_
                refine tkS 9 250 (v := .bool false) hkv rfl rfl (by kernel_rfl) (by kernel_rfl) (by kernel_rfl) (by kernel_rfl) (wanted_none rfl) (fun _ _ _ h => h) (fun U hU => r_pickF (by simp [eval_put_ne, eval_put_eq, size_put, hts]) (by simp [eval_put_ne, eval_put_eq, size_put, hts])) ?_
                refine tkS 10 251 (v := .bool false) hkv rfl rfl (by kernel_rfl) (by kernel_rfl) (by kernel_rfl) (by kernel_rfl) (wanted_none rfl) (fun _ _ _ h => h) (fun U hU => r_move (by simp [eval_put_ne, eval_put_eq, size_put, hts])) ?_
                refine tkS 11 252 (v := .pointer (some ⟨db, 0, none⟩)) hkv rfl rfl (by kernel_rfl) (by kernel_rfl) (by kernel_rfl) (by kernel_rfl) (wanted_some (j := 10) (d := 251) (bb := false) rfl rfl rfl (by simp [eval_put_ne, eval_put_eq, size_put, hts]) (by simp [size_put, hts])) (fun _ _ _ h => h) (fun U hU => r_move (by simp [eval_put_ne, eval_put_eq, size_put, hts, e7])) ?_
                refine tkS 14 255 (v := .pointer (some ⟨bx, 0, none⟩)) hkv rfl rfl (by kernel_rfl) (by kernel_rfl) (by kernel_rfl) (by kernel_rfl) (wanted_some (j := 10) (d := 251) (bb := false) rfl rfl rfl (by simp [eval_put_ne, eval_put_eq, size_put, hts]) (by simp [size_put, hts])) (fun _ _ _ h => h) (fun U hU => r_fR0 (by simp [eval_put_ne, eval_put_eq, size_put, hts, e11])) ?_
                refine tkS 15 256 (v := .pointer (some ⟨bx, 0, none⟩)) hkv rfl rfl (by kernel_rfl) (by kernel_rfl) (by kernel_rfl) (by kernel_rfl) (wanted_some (j := 10) (d := 251) (bb := false) rfl rfl rfl (by simp [eval_put_ne, eval_put_eq, size_put, hts]) (by simp [size_put, hts])) (fun _ _ _ h => h) (fun U hU => r_fD0 (by simp [eval_put_ne, eval_put_eq, size_put, hts])) ?_
                refine tkS 16 257 (v := .string (D.strV s9.st)) hkv rfl rfl (by kernel_rfl) (by kernel_rfl) (by kernel_rfl) (by kernel_rfl) (wanted_some (j := 10) (d := 251) (bb := false) rfl rfl rfl (by simp [eval_put_ne, eval_put_eq, size_put, hts]) (by simp [size_put, hts])) (fun _ _ _ h => h) (fun U hU => r_ldR9 (p := ⟨bx, 0, none⟩) (by simp [eval_put_ne, eval_put_eq, size_put, hts]) ((hU.blk hZ0.hb.blk (fun h => h)).cell 0)) ?_
                refine oneCS 12 253 (by kernel_rfl) rfl rfl (wanted_some (j := 10) (d := 251) (bb := false) rfl rfl rfl (by simp [eval_put_ne, eval_put_eq, size_put, hts]) (by simp [size_put, hts])) (r_call1 Try.func26 (by kernel_rfl) rfl rfl (by simp [eval_put_ne, eval_put_eq, size_put, hts])) ((hZ0.same hkv).pw.dimage) ?_
                rintro e v2 ⟨ig, rfl, hib, -, hk2⟩
                have hS2 : Kept (fun _ => False) w0 v2 := hkv.trans hk2 (fun _ _ h => h)
                refine ⟨_, rfl, hS2, ?_⟩
                have hcv : Cells v2 ig 0 s9.st := by
                  have := hib.cells 0 s9.st.length
                  rw [List.drop_zero, List.take_length] at this
                  exact this
                refine oneVS 13 254 (v := .string (D.strV s9.st)) (by kernel_rfl) rfl rfl (wanted_some (j := 10) (d := 251) (bb := false) rfl rfl rfl (by simp [eval_put_ne, eval_put_eq, size_put, hts]) (by simp [size_put, hts])) (D.r_str (len := 20 * 64) (cap := 20 * 64) (b := ig) (so := 0) (by simp [eval_put_ne, eval_put_eq, size_put, hts]) hcv (by rw [hZ0.hb.rf.dok.hl]) hZ0.hb.rf.dok.hB) hS2 ?_
                refine tkS 17 258 (v := .bool false) hS2 rfl rfl (by kernel_rfl) (by kernel_rfl) (by kernel_rfl) (by kernel_rfl) (wanted_some (j := 10) (d := 251) (bb := false) rfl rfl rfl (by simp [eval_put_ne, eval_put_eq, size_put, hts]) (by simp [size_put, hts])) (fun _ _ _ h => h) (fun U hU => r_ne9F (p := D.strV s9.st) (by simp [eval_put_ne, eval_put_eq, size_put, hts]) (by simp [eval_put_ne, eval_put_eq, size_put, hts])) ?_
                refine tkS 18 259 (v := .bool false) hS2 rfl rfl (by kernel_rfl) (by kernel_rfl) (by kernel_rfl) (by kernel_rfl) (wanted_none rfl) (fun _ _ _ h => h) (fun U hU => r_pickF (by simp [eval_put_ne, eval_put_eq, size_put, hts]) (by simp [eval_put_ne, eval_put_eq, size_put, hts])) ?_
                refine doneS (by kernel_rfl) ?_
                rw [hfr.out]
                have HZ2 := hide (hZ0.same hS2)
                clear hfr e7 e9 e11 e21 e22 e31 hts hS0 hheap hkw hZ0 hS2 hk2 hib hcv hown hkv
                simp only [put_lit, put_none, List.set_cons_succ, List.set_cons_zero]
                go_wp2
                go_roundw
                case rel => exact ⟨k + 1, s9, l9, rv9, hv9, _, H9, T9, by simp, by omega, by have := Hk49.out; omega, HZ2⟩
                case measure => simp [intOf]; omega
          · as_aux_lemma =>
            have HIm : Hid ((if rAll s H n then rImg s fr H n else []) = piV l s ∧ (if rAll s H n then (0 : Int) else rE s) = piE l s) := hide (by
              rw [← HS4.out.lf, ← HS4.out.ln]
              exact ⟨HS4.out.rel.piV s, HS4.out.rel.imgE⟩)
            go_wp2_with (first | (with_reducible refine stop_load 37 ?_) | fail)
            refine hide ?_
            refine aw_load (M := refPL s rv fr hv dv) Try.agg37 rfl HS4.out.hb.blk (by rw [refPL_len]; decide) rfl ?_
            try simp only [put_lit, put_none, List.set_cons_succ, List.set_cons_zero]
            go_wp2_with fail
            refine (rpimage_at w4 0 20 s rv fr n hv dv H T HS4.out.hb.rf HS4.out.rel.h64).mono ?_
            rintro e w5 ⟨rfl, hk5⟩
            rw [HIm.out.1, HIm.out.2]
            have HS5 := hide (HS4.out.same hk5)
            clear hk5
            have HImg := hide (HS5.out.pw.imageD (by rw [HS5.out.ln]; exact Hn.out) (by have := HB1.out; omega))
            obtain ⟨V, hV⟩ : ∃ V, piV l s = V := ⟨_, rfl⟩
            rw [hV] at HImg ⊢
            obtain ⟨tx, htx⟩ : ∃ tx, strN V = tx := ⟨_, rfl⟩
            have HTx := hide htx
            rw [htx]
            clear hV htx
            go_wp2_with fail
            refine HImg.out.mono ?_
            rintro e w6 ⟨d, mm, rfl, -, hk6, hdk⟩
            have HS6 := hide (HS5.out.same hk6)
            have HDk := hide hdk
            clear hk6 hdk
            go_wp2_with fail
            refine (bytes_at w6 d mm V HDk.out).mono ?_
            rintro e w9 ⟨⟨ga, gn, gc⟩, rfl, hown, hk9⟩
            have HSrc : Hid (Src w9 (.slice ga gn gc) V) := hide hown.src
            have HS9 := hide (HS6.out.same hk9)
            clear hown hk9
            go_wp2_with (first | (with_reducible refine stop_convert 41 9 ?_) | fail)
            refine hide ?_
            refine wpList_run rfl (r_strS (v := .slice ga gn gc) (B := V) rfl HSrc.out) ?_
            rw [HTx.out]
            try simp only [put_lit, put_none, List.set_cons_succ, List.set_cons_zero]
            go_wp2_with (first | (with_reducible refine stop_bin .neq ?_) | fail)
            refine hide ?_
            refine wpList_run rfl (r_ne9F (p := tx) rfl rfl) ?_
            try simp only [put_lit, put_none, List.set_cons_succ, List.set_cons_zero]
            obtain ⟨s9, l9, rv9, hv9, dv9, H9, T9, HZ⟩ : ∃ s9 l9 rv9 hv9 dv9 H9 T9, Hid (LSt W w9 db b bx fr n (k + 1) s9 l9 rv9 hv9 dv9 H9 T9 0) := ⟨_, _, _, _, _, _, _, hide
              { pw := HS9.out.pw, hb := HS9.out.hb, rel := HS9.out.rel, lf := HS9.out.lf, ln := HS9.out.ln, ge := HS9.out.ge, bd := HS9.out.bd.same }⟩
            obtain ⟨E9, hE9⟩ : ∃ E9 : Int, piE l s = E9 := ⟨_, rfl⟩
            rw [hE9]
            clear hE9
            clear HS9 HSrc HTx HImg HIm HDk HS6 HS5 HS4 HO4 HWs HKs Hnn Hobx Hw20 HB1
            obtain ⟨dg, dcap, CT, rfl, -⟩ := id HZ.out.hb.rf.hd
            have HTl : Hid (T9.length = n) := hide HZ.out.hb.rf.lens.2
            have HDl : Hid (l9.dirty.length ≤ 1000) := hide (by have := HZ.out.bd.d; have := Hk49.out; omega)
            have c7 : w9.cell? ⟨bx, 7, none⟩ = some (.slice (some ⟨dg, 0, none⟩) n dcap) := HZ.out.hb.blk.cell 7
            go_wp2
            clear c7
            go_loopw [31, 218] (fun o i wq => ∃ j : Nat, i = .int .i64 j ∧ j ≤ n ∧ o = .int .i64 ((dBel l9.dirty (j : Nat)).length : Nat) ∧ Hid (Kept (fun _ => False) w9 wq)) (fun _ i _ => n - (intOf i).toNat)
            case atStart => exact ⟨0, rfl, Nat.zero_le _, by rw [show ((0 : Nat) : Int) = 0 from rfl, dBel_none (fun e he => (HZ.out.rel.kd e he).1)]; rfl, hide (Kept.refl _ _)⟩
            case round =>
              obtain ⟨j, rfl, hj, rfl, HKq⟩ := hrel
              obtain ⟨cn, hcn⟩ : ∃ cn, (dBel l9.dirty (j : Nat)).length = cn := ⟨_, rfl⟩
              rw [hcn]
              have Hcn := hide hcn
              clear hcn
              by_cases hjn : j < n
              · have hjI : (j : Int) < (n : Int) := by omega
                have hn20 : n ≤ 20 := by have := HFit.out; omega
                have hjL : j < l9.n := by rw [HZ.out.ln]; exact hjn
                have HjL := hide hjL
                have c0 : wr.cell? ⟨dg, j, none⟩ = some (.bool (T9.getD j false)) := by
                  obtain ⟨g2, cap2, C2, he2, hb2, -⟩ := (HZ.out.same HKq.out).hb.rf.hd
                  cases he2
                  have hjT : j < T9.length := by rw [HTl.out]; exact hjn
                  rw [hb2.cell, List.getElem?_append_left (by rw [TV_length]; exact hjT), TV_get hjT]
                  simp [hjT]
                clear hjL
                cases hb : T9.getD j false with
                | false =>
                  rw [hb] at c0
                  have Hst := hide (HZ.out.rel.cntN HjL.out hb)
                  clear hb
                  go_wp2
                  go_roundw
                  case rel => exact ⟨j + 1, by simp, by omega, by rw [Hst.out, Hcn.out], HKq⟩
                  case measure => simp [intOf]; omega
                | true =>
                  rw [hb] at c0
                  obtain ⟨hc1, xx, hc2⟩ := HZ.out.rel.cnt HjL.out hb
                  rw [Hcn.out] at hc1 hc2
                  have Hc1 := hide hc1
                  have Hc2 := hide hc2
                  have hcd := (List.getElem?_eq_some_iff.1 hc2).1
                  clear hb hc1 hc2
                  go_wp2_with fail
                  refine ((HZ.out.same HKq.out).pw.dirty (by have := HDl.out; omega)).mono ?_
                  rintro e wd ⟨kv, rfl, hown, -, hkd⟩
                  rcases ownsRow_blk hown with ⟨rfl, h0, _⟩ | ⟨kg, kc, kC, rfl, hkb, -⟩
                  · omega
                  · have d0 : wd.cell? ⟨kg, cn, none⟩ = some (.int .i64 j) := by
                      rw [hkb.cell, List.getElem?_append_left (by rw [List.length_map]; exact hcd), List.getElem?_map, Hc2.out]
                      rfl
                    have HKd := hide (HKq.out.trans hkd (fun _ _ h => h))
                    obtain ⟨dl, hdl⟩ : ∃ dl, l9.dirty.length = dl := ⟨_, rfl⟩
                    have hdl2 := HDl.out
                    rw [hdl] at hcd hdl2 ⊢
                    have hcI : ¬ ((dl : Int) ≤ (cn : Int)) := by omega
                    have hcJ : (cn : Int) < (dl : Int) := by omega
                    have hwc : IntKind.i64.wrap ((cn : Int) + 1) = ((cn + 1 : Nat) : Int) := by rw [IntKind.wrap_i64]; omega
                    clear hown hkb hkd c0 hdl
                    go_wp2
                    go_roundw
                    case rel => exact ⟨j + 1, by simp, by omega, by rw [Hc1.out]; simp, HKd⟩
                    case measure => simp [intOf]; omega
              · obtain rfl : n = j := by omega
                have Hcl : Hid (l9.dirty.length = cn) := hide (by
                  have := HZ.out.rel.cntA
                  rw [HZ.out.ln] at this
                  rw [← Hcn.out, this])
                go_wp2_with fail
                refine hold_frame (p := fun fr => Code.wp Try.prog _ _ fr _) ?_
                intro fa hfr
                have e7 : fa.eval (.tmp 7) = .pointer (some ⟨db, 0, none⟩) := by rw [hfr.out]; rfl
                have e9 : fa.eval (.tmp 9) = .pointer (some ⟨b, 0, none⟩) := by rw [hfr.out]; rfl
                have e11 : fa.eval (.tmp 11) = .pointer (some ⟨bx, 0, none⟩) := by rw [hfr.out]; rfl
                have e21 : fa.eval (.tmp 21) = .int .i64 E9 := by rw [hfr.out]; rfl
                have e22 : fa.eval (.tmp 22) = .int .i64 E9 := by rw [hfr.out]; rfl
                have e31 : fa.eval (.tmp 31) = .int .i64 cn := by rw [hfr.out]; rfl
                have hts : fa.tmps.size = 261 := by rw [hfr.out]; rfl
                refine region_S0 99 Try.mixed ?_
                intro w0 hkw hheap
                have hS0 : Kept (fun _ => False) w0 w0 := Kept.refl (fun _ => False) w0
                have hZ0 := HZ.out.same (HKq.out.trans hkw (fun _ _ h => h))
                refine ⟨Kept (fun _ => False) w0, ?_⟩
                refine tkS 0 241 (v := .int .i64 E9) hS0 rfl rfl (by kernel_rfl) (by kernel_rfl) (by kernel_rfl) (by kernel_rfl) (wanted_none rfl) (fun _ _ _ h => h) (fun U hU => r_move (by simp [eval_put_ne, eval_put_eq, size_put, hts, e22])) ?_
                refine tkS 1 242 (v := .int .i64 E9) hS0 rfl rfl (by kernel_rfl) (by kernel_rfl) (by kernel_rfl) (by kernel_rfl) (wanted_none rfl) (fun _ _ _ h => h) (fun U hU => r_move (by simp [eval_put_ne, eval_put_eq, size_put, hts, e21])) ?_
                refine tkS 2 243 (v := .bool false) hS0 rfl rfl (by kernel_rfl) (by kernel_rfl) (by kernel_rfl) (by kernel_rfl) (wanted_none rfl) (fun _ _ _ h => h) (fun U hU => r_ne3F (p := E9) (by simp [eval_put_ne, eval_put_eq, size_put, hts]) (by simp [eval_put_ne, eval_put_eq, size_put, hts])) ?_
                refine tkS 3 244 (v := .bool false) hS0 rfl rfl (by kernel_rfl) (by kernel_rfl) (by kernel_rfl) (by kernel_rfl) (wanted_none rfl) (fun _ _ _ h => h) (fun U hU => r_move (by simp [eval_put_ne, eval_put_eq, size_put, hts])) ?_
                refine tkS 4 245 (v := .pointer (some ⟨b, 0, none⟩)) hS0 rfl rfl (by kernel_rfl) (by kernel_rfl) (by kernel_rfl) (by kernel_rfl) (wanted_some (j := 3) (d := 244) (bb := false) rfl rfl rfl (by simp [eval_put_ne, eval_put_eq, size_put, hts]) (by simp [size_put, hts])) (fun _ _ _ h => h) (fun U hU => r_move (by simp [eval_put_ne, eval_put_eq, size_put, hts, e9])) ?_
                refine tkS 7 248 (v := .int .i64 (cn : Nat)) hS0 rfl rfl (by kernel_rfl) (by kernel_rfl) (by kernel_rfl) (by kernel_rfl) (wanted_some (j := 3) (d := 244) (bb := false) rfl rfl rfl (by simp [eval_put_ne, eval_put_eq, size_put, hts]) (by simp [size_put, hts])) (fun _ _ _ h => h) (fun U hU => r_move (by simp [eval_put_ne, eval_put_eq, size_put, hts, e31])) ?_
                refine oneCS 5 246 (by kernel_rfl) rfl rfl (wanted_some (j := 3) (d := 244) (bb := false) rfl rfl rfl (by simp [eval_put_ne, eval_put_eq, size_put, hts]) (by simp [size_put, hts])) (r_call1 Try.func16 (by kernel_rfl) rfl rfl (by simp [eval_put_ne, eval_put_eq, size_put, hts])) (hZ0.pw.dirty (by have := HDl.out; omega)) ?_
                rintro e v1 ⟨kv, rfl, hown, -, hkv⟩
                obtain ⟨kva, kvc, rfl⟩ := ownsRow_slice hown
                rw [Hcl.out]
                refine ⟨_, rfl, hkv, ?_⟩
                refine tkS 6 247 (v := .int .i64 (cn : Nat)) hkv rfl rfl (by kernel_rfl) (by kernel_rfl) (by kernel_rfl) (by kernel_rfl) (wanted_some (j := 3) (d := 244) (bb := false) rfl rfl rfl (by simp [eval_put_ne, eval_put_eq, size_put, hts]) (by simp [size_put, hts])) (fun _ _ _ h => h) (fun U hU => r_lenI (a := kva) (n := cn) (c := kvc) (by simp [eval_put_ne, eval_put_eq, size_put, hts])) ?_
                refine tkS 8 249 (v := .bool false) hkv rfl rfl (by kernel_rfl) (by kernel_rfl) (by kernel_rfl) (by kernel_rfl) (wanted_some (j := 3) (d := 244) (bb := false) rfl rfl rfl (by simp [eval_put_ne, eval_put_eq, size_put, hts]) (by simp [size_put, hts])) (fun _ _ _ h => h) (fun U hU => r_ne3F (p := (cn : Nat)) (by simp [eval_put_ne, eval_put_eq, size_put, hts]) (by simp [eval_put_ne, eval_put_eq, size_put, hts])) ?_
                refine tkS 9 250 (v := .bool false) hkv rfl rfl (by kernel_rfl) (by kernel_rfl) (by kernel_rfl) (by kernel_rfl) (wanted_none rfl) (fun _ _ _ h => h) (fun U hU => r_pickF (by simp [eval_put_ne, eval_put_eq, size_put, hts]) (by simp [eval_put_ne, eval_put_eq, size_put, hts])) ?_
                refine tkS 10 251 (v := .bool false) hkv rfl rfl (by kernel_rfl) (by kernel_rfl) (by kernel_rfl) (by kernel_rfl) (wanted_none rfl) (fun _ _ _ h => h) (fun U hU => r_move (by simp [eval_put_ne, eval_put_eq, size_put, hts])) ?_
                refine tkS 11 252 (v := .pointer (some ⟨db, 0, none⟩)) hkv rfl rfl (by kernel_rfl) (by kernel_rfl) (by kernel_rfl) (by kernel_rfl) (wanted_some (j := 10) (d := 251) (bb := false) rfl rfl rfl (by simp [eval_put_ne, eval_put_eq, size_put, hts]) (by simp [size_put, hts])) (fun _ _ _ h => h) (fun U hU => r_move (by simp [eval_put_ne, eval_put_eq, size_put, hts, e7])) ?_
                refine tkS 14 255 (v := .pointer (some ⟨bx, 0, none⟩)) hkv rfl rfl (by kernel_rfl) (by kernel_rfl) (by kernel_rfl) (by kernel_rfl) (wanted_some (j := 10) (d := 251) (bb := false) rfl rfl rfl (by simp [eval_put_ne, eval_put_eq, size_put, hts]) (by simp [size_put, hts])) (fun _ _ _ h => h) (fun U hU => r_fR0 (by simp [eval_put_ne, eval_put_eq, size_put, hts, e11])) ?_
                refine tkS 15 256 (v := .pointer (some ⟨bx, 0, none⟩)) hkv rfl rfl (by kernel_rfl) (by kernel_rfl) (by kernel_rfl) (by kernel_rfl) (wanted_some (j := 10) (d := 251) (bb := false) rfl rfl rfl (by simp [eval_put_ne, eval_put_eq, size_put, hts]) (by simp [size_put, hts])) (fun _ _ _ h => h) (fun U hU => r_fD0 (by simp [eval_put_ne, eval_put_eq, size_put, hts])) ?_
                refine tkS 16 257 (v := .string (D.strV s9.st)) hkv rfl rfl (by kernel_rfl) (by kernel_rfl) (by kernel_rfl) (by kernel_rfl) (wanted_some (j := 10) (d := 251) (bb := false) rfl rfl rfl (by simp [eval_put_ne, eval_put_eq, size_put, hts]) (by simp [size_put, hts])) (fun _ _ _ h => h) (fun U hU => r_ldR9 (p := ⟨bx, 0, none⟩) (by simp [eval_put_ne, eval_put_eq, size_put, hts]) ((hU.blk hZ0.hb.blk (fun h => h)).cell 0)) ?_
                refine oneCS 12 253 (by kernel_rfl) rfl rfl (wanted_some (j := 10) (d := 251) (bb := false) rfl rfl rfl (by simp [eval_put_ne, eval_put_eq, size_put, hts]) (by simp [size_put, hts])) (r_call1 Try.func26 (by kernel_rfl) rfl rfl (by simp [eval_put_ne, eval_put_eq, size_put, hts])) ((hZ0.same hkv).pw.dimage) ?_
                rintro e v2 ⟨ig, rfl, hib, -, hk2⟩
                have hS2 : Kept (fun _ => False) w0 v2 := hkv.trans hk2 (fun _ _ h => h)
                refine ⟨_, rfl, hS2, ?_⟩
                have hcv : Cells v2 ig 0 s9.st := by
                  have := hib.cells 0 s9.st.length
                  rw [List.drop_zero, List.take_length] at this
                  exact this
                refine oneVS 13 254 (v := .string (D.strV s9.st)) (by kernel_rfl) rfl rfl (wanted_some (j := 10) (d := 251) (bb := false) rfl rfl rfl (by simp [eval_put_ne, eval_put_eq, size_put, hts]) (by simp [size_put, hts])) (D.r_str (len := 20 * 64) (cap := 20 * 64) (b := ig) (so := 0) (by simp [eval_put_ne, eval_put_eq, size_put, hts]) hcv (by rw [hZ0.hb.rf.dok.hl]) hZ0.hb.rf.dok.hB) hS2 ?_
                refine tkS 17 258 (v := .bool false) hS2 rfl rfl (by kernel_rfl) (by kernel_rfl) (by kernel_rfl) (by kernel_rfl) (wanted_some (j := 10) (d := 251) (bb := false) rfl rfl rfl (by simp [eval_put_ne, eval_put_eq, size_put, hts]) (by simp [size_put, hts])) (fun _ _ _ h => h) (fun U hU => r_ne9F (p := D.strV s9.st) (by simp [eval_put_ne, eval_put_eq, size_put, hts]) (by simp [eval_put_ne, eval_put_eq, size_put, hts])) ?_
                refine tkS 18 259 (v := .bool false) hS2 rfl rfl (by kernel_rfl) (by kernel_rfl) (by kernel_rfl) (by kernel_rfl) (wanted_none rfl) (fun _ _ _ h => h) (fun U hU => r_pickF (by simp [eval_put_ne, eval_put_eq, size_put, hts]) (by simp [eval_put_ne, eval_put_eq, size_put, hts])) ?_
                refine doneS (by kernel_rfl) ?_
                rw [hfr.out]
                have HZ2 := hide (hZ0.same hS2)
                clear hfr e7 e9 e11 e21 e22 e31 hts hS0 hheap hkw hZ0 hS2 hk2 hib hcv hown hkv
                simp only [put_lit, put_none, List.set_cons_succ, List.set_cons_zero]
                go_wp2
                go_roundw
                case rel => exact ⟨k + 1, s9, l9, rv9, hv9, _, H9, T9, by simp, by omega, by have := Hk49.out; omega, HZ2⟩
                case measure => simp [intOf]; omega
          · as_aux_lemma =>
            have e3 : w4.cell? ⟨ob, 3, none⟩ = some (.slice qa qn qc) := HO4.out.cell 3
            go_wp2_with (first | (with_reducible refine stop_load 33 ?_) | fail)
            refine hide ?_
            refine aw_load (M := D.refL s rv) D.Try.agg33 rfl HS4.out.hb.blk (by rw [refPL_len]; decide) rfl ?_
            try simp only [put_lit, put_none, List.set_cons_succ, List.set_cons_zero]
            go_wp2_with fail
            rw [← D.refL_A]
            have hdk := HS4.out.hb.rf.dok
            refine (D.refCrash_any w4 s 20 hdk.hl hdk.n2 rv HS4.out.hb.rf.wt hdk.ok hdk.hB (.slice qa qn qc) ks (keepIs_mono (D.keepIs.kept HKs.out HS4.out.pw.kept (fun _ _ h => h.elim)) (fun _ h => h.elim))).mono ?_
            rintro e w5 ⟨rfl, hk5⟩
            have HS5 := hide (HS4.out.same hk5)
            have HO5 := hide (hk5.blk HO4.out (fun h => h))
            have hr5 := HS5.out.hb.rf
            have HR5 : Hid (RfP w5 0 20 (s.crashed ks) (.slice none 0 0) fr n hv dv H T) := hide { hr5 with dok := hdk.crashed ks, wt := WtAt.nil w5 rfl }
            obtain ⟨s2, hs2⟩ : ∃ s2, s.crashed ks = s2 := ⟨_, rfl⟩
            have HP1 : Hid (∀ v ∈ D.refL s2 (.slice none 0 0), v.oneCell' = true) := hide (D.refL_one _ _ _ _)
            rw [hs2] at HR5
            rw [hs2]
            have Hs2 := hide hs2
            clear hk5 hr5 hdk e3 hs2
            go_wp2_with (first | (with_reducible refine stop_store 33 ?_) | fail)
            refine hide ?_
            refine aw_store (M := D.refL s2 (.slice none 0 0)) D.Try.agg33 rfl (by rw [D.refL_A]; rfl) rfl HP1.out HS5.out.hb.blk (by rw [refPL_len]; decide) ?_
            intro w6 hw6' hk6 hz6
            have hw6 : Blk w6 bx (refPL s2 (.slice none 0 0) fr hv dv) 37 := hw6'
            obtain ⟨hp6, hb6⟩ := HS5.out.store HR5.out hw6 hk6
            have HP6 := hide hp6
            have HB6 := hide hb6
            have HO6 := hide (hk6.blk HO5.out Hobx.out)
            clear hw6 hw6' hk6 hz6 hp6 hb6 HS5 HR5 HO5 HP1
            try simp only [put_lit, put_none, List.set_cons_succ, List.set_cons_zero]
            have e3 : w6.cell? ⟨ob, 3, none⟩ = some (.slice qa qn qc) := HO6.out.cell 3
            go_wp2_with fail
            refine (HP6.out.crashK _ ks HKs.out).mono ?_
            rintro e w9 ⟨rfl, hp9, hT9⟩
            have hbd := HS4.out.bd.crash ks
            rw [Hs2.out] at hp9 hbd
            obtain ⟨s9, l9, rv9, hv9, dv9, H9, T9, HZ⟩ : ∃ s9 l9 rv9 hv9 dv9 H9 T9, Hid (LSt W w9 db b bx fr n (k + 1) s9 l9 rv9 hv9 dv9 H9 T9 0) := ⟨_, _, _, _, _, _, _, hide
              { pw := hp9, hb := HB6.out.keptZ hT9, rel := HS4.out.rel, lf := HS4.out.lf, ln := HS4.out.ln, ge := HS4.out.ge, bd := hbd }⟩
            obtain ⟨E9, hE9⟩ : ∃ E9 : Int, 0 = E9 := ⟨_, rfl⟩
            clear hE9
            clear hp9 hT9 hbd Hs2 e3 HP6 HB6 HO6 HS4 HO4 HWs HKs Hnn Hobx Hw20 HB1
            obtain ⟨dg, dcap, CT, rfl, -⟩ := id HZ.out.hb.rf.hd
            have HTl : Hid (T9.length = n) := hide HZ.out.hb.rf.lens.2
            have HDl : Hid (l9.dirty.length ≤ 1000) := hide (by have := HZ.out.bd.d; have := Hk49.out; omega)
            have c7 : w9.cell? ⟨bx, 7, none⟩ = some (.slice (some ⟨dg, 0, none⟩) n dcap) := HZ.out.hb.blk.cell 7
            go_wp2
            clear c7
            go_loopw [31, 218] (fun o i wq => ∃ j : Nat, i = .int .i64 j ∧ j ≤ n ∧ o = .int .i64 ((dBel l9.dirty (j : Nat)).length : Nat) ∧ Hid (Kept (fun _ => False) w9 wq)) (fun _ i _ => n - (intOf i).toNat)
            case atStart => exact ⟨0, rfl, Nat.zero_le _, by rw [show ((0 : Nat) : Int) = 0 from rfl, dBel_none (fun e he => (HZ.out.rel.kd e he).1)]; rfl, hide (Kept.refl _ _)⟩
            case round =>
              obtain ⟨j, rfl, hj, rfl, HKq⟩ := hrel
              obtain ⟨cn, hcn⟩ : ∃ cn, (dBel l9.dirty (j : Nat)).length = cn := ⟨_, rfl⟩
              rw [hcn]
              have Hcn := hide hcn
              clear hcn
              by_cases hjn : j < n
              · have hjI : (j : Int) < (n : Int) := by omega
                have hn20 : n ≤ 20 := by have := HFit.out; omega
                have hjL : j < l9.n := by rw [HZ.out.ln]; exact hjn
                have HjL := hide hjL
                have c0 : wr.cell? ⟨dg, j, none⟩ = some (.bool (T9.getD j false)) := by
                  obtain ⟨g2, cap2, C2, he2, hb2, -⟩ := (HZ.out.same HKq.out).hb.rf.hd
                  cases he2
                  have hjT : j < T9.length := by rw [HTl.out]; exact hjn
                  rw [hb2.cell, List.getElem?_append_left (by rw [TV_length]; exact hjT), TV_get hjT]
                  simp [hjT]
                clear hjL
                cases hb : T9.getD j false with
                | false =>
                  rw [hb] at c0
                  have Hst := hide (HZ.out.rel.cntN HjL.out hb)
                  clear hb
                  go_wp2
                  go_roundw
                  case rel => exact ⟨j + 1, by simp, by omega, by rw [Hst.out, Hcn.out], HKq⟩
                  case measure => simp [intOf]; omega
                | true =>
                  rw [hb] at c0
                  obtain ⟨hc1, xx, hc2⟩ := HZ.out.rel.cnt HjL.out hb
                  rw [Hcn.out] at hc1 hc2
                  have Hc1 := hide hc1
                  have Hc2 := hide hc2
                  have hcd := (List.getElem?_eq_some_iff.1 hc2).1
                  clear hb hc1 hc2
                  go_wp2_with fail
                  refine ((HZ.out.same HKq.out).pw.dirty (by have := HDl.out; omega)).mono ?_
                  rintro e wd ⟨kv, rfl, hown, -, hkd⟩
                  rcases ownsRow_blk hown with ⟨rfl, h0, _⟩ | ⟨kg, kc, kC, rfl, hkb, -⟩
                  · omega
                  · have d0 : wd.cell? ⟨kg, cn, none⟩ = some (.int .i64 j) := by
                      rw [hkb.cell, List.getElem?_append_left (by rw [List.length_map]; exact hcd), List.getElem?_map, Hc2.out]
                      rfl
                    have HKd := hide (HKq.out.trans hkd (fun _ _ h => h))
                    obtain ⟨dl, hdl⟩ : ∃ dl, l9.dirty.length = dl := ⟨_, rfl⟩
                    have hdl2 := HDl.out
                    rw [hdl] at hcd hdl2 ⊢
                    have hcI : ¬ ((dl : Int) ≤ (cn : Int)) := by omega
                    have hcJ : (cn : Int) < (dl : Int) := by omega
                    have hwc : IntKind.i64.wrap ((cn : Int) + 1) = ((cn + 1 : Nat) : Int) := by rw [IntKind.wrap_i64]; omega
                    clear hown hkb hkd c0 hdl
                    go_wp2
                    go_roundw
                    case rel => exact ⟨j + 1, by simp, by omega, by rw [Hc1.out]; simp, HKd⟩
                    case measure => simp [intOf]; omega
              · obtain rfl : n = j := by omega
                have Hcl : Hid (l9.dirty.length = cn) := hide (by
                  have := HZ.out.rel.cntA
                  rw [HZ.out.ln] at this
                  rw [← Hcn.out, this])
                go_wp2_with fail
                refine hold_frame (p := fun fr => Code.wp Try.prog _ _ fr _) ?_
                intro fa hfr
                have e7 : fa.eval (.tmp 7) = .pointer (some ⟨db, 0, none⟩) := by rw [hfr.out]; rfl
                have e9 : fa.eval (.tmp 9) = .pointer (some ⟨b, 0, none⟩) := by rw [hfr.out]; rfl
                have e11 : fa.eval (.tmp 11) = .pointer (some ⟨bx, 0, none⟩) := by rw [hfr.out]; rfl
                have e21 : fa.eval (.tmp 21) = .int .i64 0 := by rw [hfr.out]; rfl
                have e22 : fa.eval (.tmp 22) = .int .i64 0 := by rw [hfr.out]; rfl
                have e31 : fa.eval (.tmp 31) = .int .i64 cn := by rw [hfr.out]; rfl
                have hts : fa.tmps.size = 261 := by rw [hfr.out]; rfl
                refine region_S0 99 Try.mixed ?_
                intro w0 hkw hheap
                have hS0 : Kept (fun _ => False) w0 w0 := Kept.refl (fun _ => False) w0
                have hZ0 := HZ.out.same (HKq.out.trans hkw (fun _ _ h => h))
                refine ⟨Kept (fun _ => False) w0, ?_⟩
                refine tkS 0 241 (v := .int .i64 0) hS0 rfl rfl (by kernel_rfl) (by kernel_rfl) (by kernel_rfl) (by kernel_rfl) (wanted_none rfl) (fun _ _ _ h => h) (fun U hU => r_move (by simp [eval_put_ne, eval_put_eq, size_put, hts, e22])) ?_
                refine tkS 1 242 (v := .int .i64 0) hS0 rfl rfl (by kernel_rfl) (by kernel_rfl) (by kernel_rfl) (by kernel_rfl) (wanted_none rfl) (fun _ _ _ h => h) (fun U hU => r_move (by simp [eval_put_ne, eval_put_eq, size_put, hts, e21])) ?_
                refine tkS 2 243 (v := .bool false) hS0 rfl rfl (by kernel_rfl) (by kernel_rfl) (by kernel_rfl) (by kernel_rfl) (wanted_none rfl) (fun _ _ _ h => h) (fun U hU => r_ne3F (p := 0) (by simp [eval_put_ne, eval_put_eq, size_put, hts]) (by simp [eval_put_ne, eval_put_eq, size_put, hts])) ?_
                refine tkS 3 244 (v := .bool false) hS0 rfl rfl (by kernel_rfl) (by kernel_rfl) (by kernel_rfl) (by kernel_rfl) (wanted_none rfl) (fun _ _ _ h => h) (fun U hU => r_move (by simp [eval_put_ne, eval_put_eq, size_put, hts])) ?_
                refine tkS 4 245 (v := .pointer (some ⟨b, 0, none⟩)) hS0 rfl rfl (by kernel_rfl) (by kernel_rfl) (by kernel_rfl) (by kernel_rfl) (wanted_some (j := 3) (d := 244) (bb := false) rfl rfl rfl (by simp [eval_put_ne, eval_put_eq, size_put, hts]) (by simp [size_put, hts])) (fun _ _ _ h => h) (fun U hU => r_move (by simp [eval_put_ne, eval_put_eq, size_put, hts, e9])) ?_
                refine tkS 7 248 (v := .int .i64 (cn : Nat)) hS0 rfl rfl (by kernel_rfl) (by kernel_rfl) (by kernel_rfl) (by kernel_rfl) (wanted_some (j := 3) (d := 244) (bb := false) rfl rfl rfl (by simp [eval_put_ne, eval_put_eq, size_put, hts]) (by simp [size_put, hts])) (fun _ _ _ h => h) (fun U hU => r_move (by simp [eval_put_ne, eval_put_eq, size_put, hts, e31])) ?_
                refine oneCS 5 246 (by kernel_rfl) rfl rfl (wanted_some (j := 3) (d := 244) (bb := false) rfl rfl rfl (by simp [eval_put_ne, eval_put_eq, size_put, hts]) (by simp [size_put, hts])) (r_call1 Try.func16 (by kernel_rfl) rfl rfl (by simp [eval_put_ne, eval_put_eq, size_put, hts])) (hZ0.pw.dirty (by have := HDl.out; omega)) ?_
                rintro e v1 ⟨kv, rfl, hown, -, hkv⟩
                obtain ⟨kva, kvc, rfl⟩ := ownsRow_slice hown
                rw [Hcl.out]
                refine ⟨_, rfl, hkv, ?_⟩
                refine tkS 6 247 (v := .int .i64 (cn : Nat)) hkv rfl rfl (by kernel_rfl) (by kernel_rfl) (by kernel_rfl) (by kernel_rfl) (wanted_some (j := 3) (d := 244) (bb := false) rfl rfl rfl (by simp [eval_put_ne, eval_put_eq, size_put, hts]) (by simp [size_put, hts])) (fun _ _ _ h => h) (fun U hU => r_lenI (a := kva) (n := cn) (c := kvc) (by simp [eval_put_ne, eval_put_eq, size_put, hts])) ?_
                refine tkS 8 249 (v := .bool false) hkv rfl rfl (by kernel_rfl) (by kernel_rfl) (by kernel_rfl) (by kernel_rfl) (wanted_some (j := 3) (d := 244) (bb := false) rfl rfl rfl (by simp [eval_put_ne, eval_put_eq, size_put, hts]) (by simp [size_put, hts])) (fun _ _ _ h => h) (fun U hU => r_ne3F (p := (cn : Nat)) (by simp [eval_put_ne, eval_put_eq, size_put, hts]) (by simp [eval_put_ne, eval_put_eq, size_put, hts])) ?_
                refine tkS 9 250 (v := .bool false) hkv rfl rfl (by kernel_rfl) (by kernel_rfl) (by kernel_rfl) (by kernel_rfl) (wanted_none rfl) (fun _ _ _ h => h) (fun U hU => r_pickF (by simp [eval_put_ne, eval_put_eq, size_put, hts]) (by simp [eval_put_ne, eval_put_eq, size_put, hts])) ?_
                refine tkS 10 251 (v := .bool false) hkv rfl rfl (by kernel_rfl) (by kernel_rfl) (by kernel_rfl) (by kernel_rfl) (wanted_none rfl) (fun _ _ _ h => h) (fun U hU => r_move (by simp [eval_put_ne, eval_put_eq, size_put, hts])) ?_
                refine tkS 11 252 (v := .pointer (some ⟨db, 0, none⟩)) hkv rfl rfl (by kernel_rfl) (by kernel_rfl) (by kernel_rfl) (by kernel_rfl) (wanted_some (j := 10) (d := 251) (bb := false) rfl rfl rfl (by simp [eval_put_ne, eval_put_eq, size_put, hts]) (by simp [size_put, hts])) (fun _ _ _ h => h) (fun U hU => r_move (by simp [eval_put_ne, eval_put_eq, size_put, hts, e7])) ?_
                refine tkS 14 255 (v := .pointer (some ⟨bx, 0, none⟩)) hkv rfl rfl (by kernel_rfl) (by kernel_rfl) (by kernel_rfl) (by kernel_rfl) (wanted_some (j := 10) (d := 251) (bb := false) rfl rfl rfl (by simp [eval_put_ne, eval_put_eq, size_put, hts]) (by simp [size_put, hts])) (fun _ _ _ h => h) (fun U hU => r_fR0 (by simp [eval_put_ne, eval_put_eq, size_put, hts, e11])) ?_
                refine tkS 15 256 (v := .pointer (some ⟨bx, 0, none⟩)) hkv rfl rfl (by kernel_rfl) (by kernel_rfl) (by kernel_rfl) (by kernel_rfl) (wanted_some (j := 10) (d := 251) (bb := false) rfl rfl rfl (by simp [eval_put_ne, eval_put_eq, size_put, hts]) (by simp [size_put, hts])) (fun _ _ _ h => h) (fun U hU => r_fD0 (by simp [eval_put_ne, eval_put_eq, size_put, hts])) ?_
                refine tkS 16 257 (v := .string (D.strV s9.st)) hkv rfl rfl (by kernel_rfl) (by kernel_rfl) (by kernel_rfl) (by kernel_rfl) (wanted_some (j := 10) (d := 251) (bb := false) rfl rfl rfl (by simp [eval_put_ne, eval_put_eq, size_put, hts]) (by simp [size_put, hts])) (fun _ _ _ h => h) (fun U hU => r_ldR9 (p := ⟨bx, 0, none⟩) (by simp [eval_put_ne, eval_put_eq, size_put, hts]) ((hU.blk hZ0.hb.blk (fun h => h)).cell 0)) ?_
                refine oneCS 12 253 (by kernel_rfl) rfl rfl (wanted_some (j := 10) (d := 251) (bb := false) rfl rfl rfl (by simp [eval_put_ne, eval_put_eq, size_put, hts]) (by simp [size_put, hts])) (r_call1 Try.func26 (by kernel_rfl) rfl rfl (by simp [eval_put_ne, eval_put_eq, size_put, hts])) ((hZ0.same hkv).pw.dimage) ?_
                rintro e v2 ⟨ig, rfl, hib, -, hk2⟩
                have hS2 : Kept (fun _ => False) w0 v2 := hkv.trans hk2 (fun _ _ h => h)
                refine ⟨_, rfl, hS2, ?_⟩
                have hcv : Cells v2 ig 0 s9.st := by
                  have := hib.cells 0 s9.st.length
                  rw [List.drop_zero, List.take_length] at this
                  exact this
                refine oneVS 13 254 (v := .string (D.strV s9.st)) (by kernel_rfl) rfl rfl (wanted_some (j := 10) (d := 251) (bb := false) rfl rfl rfl (by simp [eval_put_ne, eval_put_eq, size_put, hts]) (by simp [size_put, hts])) (D.r_str (len := 20 * 64) (cap := 20 * 64) (b := ig) (so := 0) (by simp [eval_put_ne, eval_put_eq, size_put, hts]) hcv (by rw [hZ0.hb.rf.dok.hl]) hZ0.hb.rf.dok.hB) hS2 ?_
                refine tkS 17 258 (v := .bool false) hS2 rfl rfl (by kernel_rfl) (by kernel_rfl) (by kernel_rfl) (by kernel_rfl) (wanted_some (j := 10) (d := 251) (bb := false) rfl rfl rfl (by simp [eval_put_ne, eval_put_eq, size_put, hts]) (by simp [size_put, hts])) (fun _ _ _ h => h) (fun U hU => r_ne9F (p := D.strV s9.st) (by simp [eval_put_ne, eval_put_eq, size_put, hts]) (by simp [eval_put_ne, eval_put_eq, size_put, hts])) ?_
                refine tkS 18 259 (v := .bool false) hS2 rfl rfl (by kernel_rfl) (by kernel_rfl) (by kernel_rfl) (by kernel_rfl) (wanted_none rfl) (fun _ _ _ h => h) (fun U hU => r_pickF (by simp [eval_put_ne, eval_put_eq, size_put, hts]) (by simp [eval_put_ne, eval_put_eq, size_put, hts])) ?_
                refine doneS (by kernel_rfl) ?_
                rw [hfr.out]
                have HZ2 := hide (hZ0.same hS2)
                clear hfr e7 e9 e11 e21 e22 e31 hts hS0 hheap hkw hZ0 hS2 hk2 hib hcv hown hkv
                simp only [put_lit, put_none, List.set_cons_succ, List.set_cons_zero]
                go_wp2
                go_roundw
                case rel => exact ⟨k + 1, s9, l9, rv9, hv9, _, H9, T9, by simp, by omega, by have := Hk49.out; omega, HZ2⟩
                case measure => simp [intOf]; omega
          · as_aux_lemma =>
            have e1 : w4.cell? ⟨ob, 1, none⟩ = some (.int .i64 nn) := HO4.out.cell 1
            obtain ⟨mx, hmx⟩ : ∃ mx, max nn (-1) = mx := ⟨_, rfl⟩
            have HMx := hide hmx
            clear hmx
            have c3 : w4.cell? ⟨bx, 3, none⟩ = some (.int .i64 s.left) := HS4.out.hb.blk.cell 3
            have f3 : w4.frozen? ⟨bx, 3, none⟩ = false := HS4.out.hb.blk.frozen 3
            have hw6' := HS4.out.hb.blk.setCell 3 (.int .i64 mx)
            have hk6 := Kept.setCell (S := fun k => k = bx) w4 ⟨bx, 3, none⟩ (.int .i64 mx) rfl
            have hw6 : Blk (w4.setCell ⟨bx, 3, none⟩ (.int .i64 mx)) bx (refPL { s with left := mx } rv fr hv dv) 37 := hw6'
            have hr5 := HS4.out.hb.rf
            have HR5 : RfP w4 0 20 { s with left := mx } rv fr n hv dv H T := { hr5 with dok := by rw [← HMx.out]; exact hr5.dok.limit nn Hnn.out.2, wt := hr5.wt }
            obtain ⟨hp6, hb6⟩ := HS4.out.store HR5 hw6 hk6
            have hO6 := hk6.blk HO4.out Hobx.out
            have HPk := hide (And.intro hp6 (And.intro hb6 hO6))
            have g1 : (w4.setCell ⟨bx, 3, none⟩ (.int .i64 mx)).cell? ⟨ob, 1, none⟩ = some (.int .i64 nn) := hO6.cell 1
            clear hw6 hw6' hk6 hr5 HR5 hp6 hb6 hO6
            go_wp2_with (first | (with_reducible refine wpList_run rfl (r_max3 (r := mx) rfl rfl HMx.out) ?_) | fail)
            generalize w4.setCell ⟨bx, 3, none⟩ (.int .i64 mx) = w6 at HPk g1 ⊢
            refine (HPk.out.1.limit nn Hnn.out.2).mono ?_
            rintro e w9 ⟨rfl, hp9, hT9⟩
            rw [HMx.out] at hp9
            obtain ⟨s9, l9, rv9, hv9, dv9, H9, T9, HZ⟩ : ∃ s9 l9 rv9 hv9 dv9 H9 T9, Hid (LSt W w9 db b bx fr n (k + 1) s9 l9 rv9 hv9 dv9 H9 T9 0) := ⟨_, _, _, _, _, _, _, hide
              { pw := hp9, hb := HPk.out.2.1.keptZ hT9, rel := HS4.out.rel, lf := HS4.out.lf, ln := HS4.out.ln, ge := HS4.out.ge, bd := HS4.out.bd.limit mx }⟩
            obtain ⟨E9, hE9⟩ : ∃ E9 : Int, 0 = E9 := ⟨_, rfl⟩
            clear hE9
            clear hp9 hT9 HPk g1 c3 f3 e1 HMx HS4 HO4 HWs HKs Hnn Hobx Hw20 HB1
            obtain ⟨dg, dcap, CT, rfl, -⟩ := id HZ.out.hb.rf.hd
            have HTl : Hid (T9.length = n) := hide HZ.out.hb.rf.lens.2
            have HDl : Hid (l9.dirty.length ≤ 1000) := hide (by have := HZ.out.bd.d; have := Hk49.out; omega)
            have c7 : w9.cell? ⟨bx, 7, none⟩ = some (.slice (some ⟨dg, 0, none⟩) n dcap) := HZ.out.hb.blk.cell 7
            go_wp2
            clear c7
            go_loopw [31, 218] (fun o i wq => ∃ j : Nat, i = .int .i64 j ∧ j ≤ n ∧ o = .int .i64 ((dBel l9.dirty (j : Nat)).length : Nat) ∧ Hid (Kept (fun _ => False) w9 wq)) (fun _ i _ => n - (intOf i).toNat)
            case atStart => exact ⟨0, rfl, Nat.zero_le _, by rw [show ((0 : Nat) : Int) = 0 from rfl, dBel_none (fun e he => (HZ.out.rel.kd e he).1)]; rfl, hide (Kept.refl _ _)⟩
            case round =>
              obtain ⟨j, rfl, hj, rfl, HKq⟩ := hrel
              obtain ⟨cn, hcn⟩ : ∃ cn, (dBel l9.dirty (j : Nat)).length = cn := ⟨_, rfl⟩
              rw [hcn]
              have Hcn := hide hcn
              clear hcn
              by_cases hjn : j < n
              · have hjI : (j : Int) < (n : Int) := by omega
                have hn20 : n ≤ 20 := by have := HFit.out; omega
                have hjL : j < l9.n := by rw [HZ.out.ln]; exact hjn
                have HjL := hide hjL
                have c0 : wr.cell? ⟨dg, j, none⟩ = some (.bool (T9.getD j false)) := by
                  obtain ⟨g2, cap2, C2, he2, hb2, -⟩ := (HZ.out.same HKq.out).hb.rf.hd
                  cases he2
                  have hjT : j < T9.length := by rw [HTl.out]; exact hjn
                  rw [hb2.cell, List.getElem?_append_left (by rw [TV_length]; exact hjT), TV_get hjT]
                  simp [hjT]
                clear hjL
                cases hb : T9.getD j false with
                | false =>
                  rw [hb] at c0
                  have Hst := hide (HZ.out.rel.cntN HjL.out hb)
                  clear hb
                  go_wp2
                  go_roundw
                  case rel => exact ⟨j + 1, by simp, by omega, by rw [Hst.out, Hcn.out], HKq⟩
                  case measure => simp [intOf]; omega
                | true =>
                  rw [hb] at c0
                  obtain ⟨hc1, xx, hc2⟩ := HZ.out.rel.cnt HjL.out hb
                  rw [Hcn.out] at hc1 hc2
                  have Hc1 := hide hc1
                  have Hc2 := hide hc2
                  have hcd := (List.getElem?_eq_some_iff.1 hc2).1
                  clear hb hc1 hc2
                  go_wp2_with fail
                  refine ((HZ.out.same HKq.out).pw.dirty (by have := HDl.out; omega)).mono ?_
                  rintro e wd ⟨kv, rfl, hown, -, hkd⟩
                  rcases ownsRow_blk hown with ⟨rfl, h0, _⟩ | ⟨kg, kc, kC, rfl, hkb, -⟩
                  · omega
                  · have d0 : wd.cell? ⟨kg, cn, none⟩ = some (.int .i64 j) := by
                      rw [hkb.cell, List.getElem?_append_left (by rw [List.length_map]; exact hcd), List.getElem?_map, Hc2.out]
                      rfl
                    have HKd := hide (HKq.out.trans hkd (fun _ _ h => h))
                    obtain ⟨dl, hdl⟩ : ∃ dl, l9.dirty.length = dl := ⟨_, rfl⟩
                    have hdl2 := HDl.out
                    rw [hdl] at hcd hdl2 ⊢
                    have hcI : ¬ ((dl : Int) ≤ (cn : Int)) := by omega
                    have hcJ : (cn : Int) < (dl : Int) := by omega
                    have hwc : IntKind.i64.wrap ((cn : Int) + 1) = ((cn + 1 : Nat) : Int) := by rw [IntKind.wrap_i64]; omega
                    clear hown hkb hkd c0 hdl
                    go_wp2
                    go_roundw
                    case rel => exact ⟨j + 1, by simp, by omega, by rw [Hc1.out]; simp, HKd⟩
                    case measure => simp [intOf]; omega
              · obtain rfl : n = j := by omega
                have Hcl : Hid (l9.dirty.length = cn) := hide (by
                  have := HZ.out.rel.cntA
                  rw [HZ.out.ln] at this
                  rw [← Hcn.out, this])
                go_wp2_with fail
                refine hold_frame (p := fun fr => Code.wp Try.prog _ _ fr _) ?_
                intro fa hfr
                have e7 : fa.eval (.tmp 7) = .pointer (some ⟨db, 0, none⟩) := by rw [hfr.out]; rfl
                have e9 : fa.eval (.tmp 9) = .pointer (some ⟨b, 0, none⟩) := by rw [hfr.out]; rfl
                have e11 : fa.eval (.tmp 11) = .pointer (some ⟨bx, 0, none⟩) := by rw [hfr.out]; rfl
                have e21 : fa.eval (.tmp 21) = .int .i64 0 := by rw [hfr.out]; rfl
                have e22 : fa.eval (.tmp 22) = .int .i64 0 := by rw [hfr.out]; rfl
                have e31 : fa.eval (.tmp 31) = .int .i64 cn := by rw [hfr.out]; rfl
                have hts : fa.tmps.size = 261 := by rw [hfr.out]; rfl
                refine region_S0 99 Try.mixed ?_
                intro w0 hkw hheap
                have hS0 : Kept (fun _ => False) w0 w0 := Kept.refl (fun _ => False) w0
                have hZ0 := HZ.out.same (HKq.out.trans hkw (fun _ _ h => h))
                refine ⟨Kept (fun _ => False) w0, ?_⟩
                refine tkS 0 241 (v := .int .i64 0) hS0 rfl rfl (by kernel_rfl) (by kernel_rfl) (by kernel_rfl) (by kernel_rfl) (wanted_none rfl) (fun _ _ _ h => h) (fun U hU => r_move (by simp [eval_put_ne, eval_put_eq, size_put, hts, e22])) ?_
                refine tkS 1 242 (v := .int .i64 0) hS0 rfl rfl (by kernel_rfl) (by kernel_rfl) (by kernel_rfl) (by kernel_rfl) (wanted_none rfl) (fun _ _ _ h => h) (fun U hU => r_move (by simp [eval_put_ne, eval_put_eq, size_put, hts, e21])) ?_
                refine tkS 2 243 (v := .bool false) hS0 rfl rfl (by kernel_rfl) (by kernel_rfl) (by kernel_rfl) (by kernel_rfl) (wanted_none rfl) (fun _ _ _ h => h) (fun U hU => r_ne3F (p := 0) (by simp [eval_put_ne, eval_put_eq, size_put, hts]) (by simp [eval_put_ne, eval_put_eq, size_put, hts])) ?_
                refine tkS 3 244 (v := .bool false) hS0 rfl rfl (by kernel_rfl) (by kernel_rfl) (by kernel_rfl) (by kernel_rfl) (wanted_none rfl) (fun _ _ _ h => h) (fun U hU => r_move (by simp [eval_put_ne, eval_put_eq, size_put, hts])) ?_
                refine tkS 4 245 (v := .pointer (some ⟨b, 0, none⟩)) hS0 rfl rfl (by kernel_rfl) (by kernel_rfl) (by kernel_rfl) (by kernel_rfl) (wanted_some (j := 3) (d := 244) (bb := false) rfl rfl rfl (by simp [eval_put_ne, eval_put_eq, size_put, hts]) (by simp [size_put, hts])) (fun _ _ _ h => h) (fun U hU => r_move (by simp [eval_put_ne, eval_put_eq, size_put, hts, e9])) ?_
                refine tkS 7 248 (v := .int .i64 (cn : Nat)) hS0 rfl rfl (by kernel_rfl) (by kernel_rfl) (by kernel_rfl) (by kernel_rfl) (wanted_some (j := 3) (d := 244) (bb := false) rfl rfl rfl (by simp [eval_put_ne, eval_put_eq, size_put, hts]) (by simp [size_put, hts])) (fun _ _ _ h => h) (fun U hU => r_move (by simp [eval_put_ne, eval_put_eq, size_put, hts, e31])) ?_
                refine oneCS 5 246 (by kernel_rfl) rfl rfl (wanted_some (j := 3) (d := 244) (bb := false) rfl rfl rfl (by simp [eval_put_ne, eval_put_eq, size_put, hts]) (by simp [size_put, hts])) (r_call1 Try.func16 (by kernel_rfl) rfl rfl (by simp [eval_put_ne, eval_put_eq, size_put, hts])) (hZ0.pw.dirty (by have := HDl.out; omega)) ?_
                rintro e v1 ⟨kv, rfl, hown, -, hkv⟩
                obtain ⟨kva, kvc, rfl⟩ := ownsRow_slice hown
                rw [Hcl.out]
                refine ⟨_, rfl, hkv, ?_⟩
                refine tkS 6 247 (v := .int .i64 (cn : Nat)) hkv rfl rfl (by kernel_rfl) (by kernel_rfl) (by kernel_rfl) (by kernel_rfl) (wanted_some (j := 3) (d := 244) (bb := false) rfl rfl rfl (by simp [eval_put_ne, eval_put_eq, size_put, hts]) (by simp [size_put, hts])) (fun _ _ _ h => h) (fun U hU => r_lenI (a := kva) (n := cn) (c := kvc) (by simp [eval_put_ne, eval_put_eq, size_put, hts])) ?_
                refine tkS 8 249 (v := .bool false) hkv rfl rfl (by kernel_rfl) (by kernel_rfl) (by kernel_rfl) (by kernel_rfl) (wanted_some (j := 3) (d := 244) (bb := false) rfl rfl rfl (by simp [eval_put_ne, eval_put_eq, size_put, hts]) (by simp [size_put, hts])) (fun _ _ _ h => h) (fun U hU => r_ne3F (p := (cn : Nat)) (by simp [eval_put_ne, eval_put_eq, size_put, hts]) (by simp [eval_put_ne, eval_put_eq, size_put, hts])) ?_
                refine tkS 9 250 (v := .bool false) hkv rfl rfl (by kernel_rfl) (by kernel_rfl) (by kernel_rfl) (by kernel_rfl) (wanted_none rfl) (fun _ _ _ h => h) (fun U hU => r_pickF (by simp [eval_put_ne, eval_put_eq, size_put, hts]) (by simp [eval_put_ne, eval_put_eq, size_put, hts])) ?_
                refine tkS 10 251 (v := .bool false) hkv rfl rfl (by kernel_rfl) (by kernel_rfl) (by kernel_rfl) (by kernel_rfl) (wanted_none rfl) (fun _ _ _ h => h) (fun U hU => r_move (by simp [eval_put_ne, eval_put_eq, size_put, hts])) ?_
                refine tkS 11 252 (v := .pointer (some ⟨db, 0, none⟩)) hkv rfl rfl (by kernel_rfl) (by kernel_rfl) (by kernel_rfl) (by kernel_rfl) (wanted_some (j := 10) (d := 251) (bb := false) rfl rfl rfl (by simp [eval_put_ne, eval_put_eq, size_put, hts]) (by simp [size_put, hts])) (fun _ _ _ h => h) (fun U hU => r_move (by simp [eval_put_ne, eval_put_eq, size_put, hts, e7])) ?_
                refine tkS 14 255 (v := .pointer (some ⟨bx, 0, none⟩)) hkv rfl rfl (by kernel_rfl) (by kernel_rfl) (by kernel_rfl) (by kernel_rfl) (wanted_some (j := 10) (d := 251) (bb := false) rfl rfl rfl (by simp [eval_put_ne, eval_put_eq, size_put, hts]) (by simp [size_put, hts])) (fun _ _ _ h => h) (fun U hU => r_fR0 (by simp [eval_put_ne, eval_put_eq, size_put, hts, e11])) ?_
                refine tkS 15 256 (v := .pointer (some ⟨bx, 0, none⟩)) hkv rfl rfl (by kernel_rfl) (by kernel_rfl) (by kernel_rfl) (by kernel_rfl) (wanted_some (j := 10) (d := 251) (bb := false) rfl rfl rfl (by simp [eval_put_ne, eval_put_eq, size_put, hts]) (by simp [size_put, hts])) (fun _ _ _ h => h) (fun U hU => r_fD0 (by simp [eval_put_ne, eval_put_eq, size_put, hts])) ?_
                refine tkS 16 257 (v := .string (D.strV s9.st)) hkv rfl rfl (by kernel_rfl) (by kernel_rfl) (by kernel_rfl) (by kernel_rfl) (wanted_some (j := 10) (d := 251) (bb := false) rfl rfl rfl (by simp [eval_put_ne, eval_put_eq, size_put, hts]) (by simp [size_put, hts])) (fun _ _ _ h => h) (fun U hU => r_ldR9 (p := ⟨bx, 0, none⟩) (by simp [eval_put_ne, eval_put_eq, size_put, hts]) ((hU.blk hZ0.hb.blk (fun h => h)).cell 0)) ?_
                refine oneCS 12 253 (by kernel_rfl) rfl rfl (wanted_some (j := 10) (d := 251) (bb := false) rfl rfl rfl (by simp [eval_put_ne, eval_put_eq, size_put, hts]) (by simp [size_put, hts])) (r_call1 Try.func26 (by kernel_rfl) rfl rfl (by simp [eval_put_ne, eval_put_eq, size_put, hts])) ((hZ0.same hkv).pw.dimage) ?_
                rintro e v2 ⟨ig, rfl, hib, -, hk2⟩
                have hS2 : Kept (fun _ => False) w0 v2 := hkv.trans hk2 (fun _ _ h => h)
                refine ⟨_, rfl, hS2, ?_⟩
                have hcv : Cells v2 ig 0 s9.st := by
                  have := hib.cells 0 s9.st.length
                  rw [List.drop_zero, List.take_length] at this
                  exact this
                refine oneVS 13 254 (v := .string (D.strV s9.st)) (by kernel_rfl) rfl rfl (wanted_some (j := 10) (d := 251) (bb := false) rfl rfl rfl (by simp [eval_put_ne, eval_put_eq, size_put, hts]) (by simp [size_put, hts])) (D.r_str (len := 20 * 64) (cap := 20 * 64) (b := ig) (so := 0) (by simp [eval_put_ne, eval_put_eq, size_put, hts]) hcv (by rw [hZ0.hb.rf.dok.hl]) hZ0.hb.rf.dok.hB) hS2 ?_
                refine tkS 17 258 (v := .bool false) hS2 rfl rfl (by kernel_rfl) (by kernel_rfl) (by kernel_rfl) (by kernel_rfl) (wanted_some (j := 10) (d := 251) (bb := false) rfl rfl rfl (by simp [eval_put_ne, eval_put_eq, size_put, hts]) (by simp [size_put, hts])) (fun _ _ _ h => h) (fun U hU => r_ne9F (p := D.strV s9.st) (by simp [eval_put_ne, eval_put_eq, size_put, hts]) (by simp [eval_put_ne, eval_put_eq, size_put, hts])) ?_
                refine tkS 18 259 (v := .bool false) hS2 rfl rfl (by kernel_rfl) (by kernel_rfl) (by kernel_rfl) (by kernel_rfl) (wanted_none rfl) (fun _ _ _ h => h) (fun U hU => r_pickF (by simp [eval_put_ne, eval_put_eq, size_put, hts]) (by simp [eval_put_ne, eval_put_eq, size_put, hts])) ?_
                refine doneS (by kernel_rfl) ?_
                rw [hfr.out]
                have HZ2 := hide (hZ0.same hS2)
                clear hfr e7 e9 e11 e21 e22 e31 hts hS0 hheap hkw hZ0 hS2 hk2 hib hcv hown hkv
                simp only [put_lit, put_none, List.set_cons_succ, List.set_cons_zero]
                go_wp2
                go_roundw
                case rel => exact ⟨k + 1, s9, l9, rv9, hv9, _, H9, T9, by simp, by omega, by have := Hk49.out; omega, HZ2⟩
                case measure => simp [intOf]; omega
    · skip
      obtain rfl : k = m := by omega
      go_wp2
      go_ret
      exact ⟨rfl, HS.out.pw.kept⟩
end Go.Proofs.Ytnlcmgdeohbmoaa
