/-
  Put and Sectors, of the references.
-/
import Derived.Test.YtcdlgaknpmlfeaaRRefRightW
import Derived.Test.YtcdlgaknpmlfeaaRSect
import Derived.Test.YtcdlgaknpmlfeaaPRef
namespace Go.Proofs.Ytcdlgaknpmlfeaa
open Go.RowKit Go.Shelf
set_option linter.unusedSimpArgs false
set_option linter.unusedVariables false

section
variable {ρ : Operand → Value} {w : World} {dst : Option Tmp} {ty : TypeId} {pos : String} {aft : Array Edge} {gd : Option (Nat × Bool)} {x y z : Operand}
theorem r_f24_1 {b : Nat} (hx : ρ x = .pointer (some ⟨b, 0, none⟩)) : (execOp ρ ⟨dst, .fieldAddr 24 x 1, ty, pos, aft, gd⟩).run Try.prog w = .ok (.value (.pointer (some ⟨b, 1, none⟩))) w := by
  go_simp
theorem r_f24_2 {b : Nat} (hx : ρ x = .pointer (some ⟨b, 0, none⟩)) : (execOp ρ ⟨dst, .fieldAddr 24 x 2, ty, pos, aft, gd⟩).run Try.prog w = .ok (.value (.pointer (some ⟨b, 2, none⟩))) w := by
  go_simp
end
theorem right_parts {r : Rc} (h : rightR r = true) : (r.kind = 1 ∨ r.kind = 2 ∨ r.kind = 3) ∧ 0 ≤ r.tl ∧ r.tl ≤ 2147483647 ∧ 0 ≤ r.num ∧ r.num ≤ 1099511627776 ∧ (r.kind = 3 → r.ws.length ≤ 64 ∧ ∀ w ∈ r.ws, 0 ≤ w.blk ∧ w.blk < 64 ∧ w.B.length = 64) := by
  unfold rightR tnOk at h
  by_cases h2 : r.kind = 2
  · rw [if_pos h2] at h
    simp at h
    refine ⟨.inr (.inl h2), by omega, by omega, by omega, by omega, fun h3 => by omega⟩
  · rw [if_neg h2] at h
    by_cases h1 : r.kind = 1
    · rw [if_pos h1] at h
      simp at h
      exact ⟨.inl h1, by omega, by omega, by omega, by omega, fun h3 => by omega⟩
    · rw [if_neg h1] at h
      by_cases h3 : r.kind = 3
      · rw [if_pos h3] at h
        simp only [Bool.and_eq_true, decide_eq_true_eq] at h
        have hl := goodFrom_len (by omega) (by omega) h.2
        exact ⟨.inr (.inr h3), by omega, by omega, by omega, by omega, fun _ => ⟨by omega, fun w hw => (goodFrom_mem h.2 w hw).2⟩⟩
      · rw [if_neg h3] at h
        cases h

set_option maxRecDepth 100000 in
set_option maxHeartbeats 8000000 in
theorem rrputP_at (w : World) (kn tn nn : Nat) (xa : Option Addr) (xn xc : Nat) (l : List Wv) (h : WsAt w (.slice xa xn xc) l) (hr : rightR ⟨kn, tn, nn, l.map Wv.wr⟩ = true) :
    Calls Try.prog 10 #[rAgg kn tn nn ⟨xa, xn, xc⟩] w fun e w' => e = .returned (.string (strN (putR ⟨kn, tn, nn, l.map Wv.wr⟩))) ∧ Kept (fun _ => False) w w' := by
  have hxl := WsAt.len h
  obtain ⟨n, hn⟩ : ∃ n, n = l.length := ⟨_, rfl⟩
  rw [← hn] at hxl
  obtain rfl : n = xn := hxl.symm
  have Hn : Hid (n = l.length) := hide hn
  have hp := right_parts hr
  simp only at hp
  obtain ⟨p1, p2, p3, p4, p5, p6⟩ := hp
  have HP6 := hide p6
  have hk255 : kn ≤ 3 := by omega
  have htb : tn ≤ 2147483647 := by omega
  have hnb : nn ≤ 1099511627776 := by omega
  have HPut : Hid (putR ⟨kn, tn, nn, l.map Wv.wr⟩ = numB kn 1 ++ (if (kn : Int) = 2 then [] else numB tn 4 ++ (numB nn 8 ++ (if (kn : Int) = 3 then numB n 2 ++ encWs (l.map Wv.wr) else [])))) := hide (by
    rw [hn]; simp [putR])
  have HW := hide h
  clear h hn p1 p2 p3 p4 p5 p6 hr
  obtain ⟨i40, hi40, hz40, hs40, hb40⟩ := info_parts Try.info40
  have Hi40 := hide hi40
  have Hz40 := hide hz40
  clear hi40 hz40 hs40 hb40
  go_enter Try.func10, Try.ntmps10
  go_wp2_with (with_reducible refine stop_boxA ?_)
  refine hide ?_
  refine aw_box (t := 24) (v := rAgg kn tn nn ⟨xa, n, xc⟩) rfl ?_
  intro w1 hb1 hk1 hz1
  obtain ⟨b0, hb0⟩ : ∃ b, b = w.heap.size := ⟨_, rfl⟩
  rw [← hb0] at hb1 ⊢
  have HB1 : Hid (Blk w1 b0 [.int .i64 kn, .int .i64 tn, .int .i64 nn, .slice xa n xc] 24) := hide hb1
  have c0 : w1.cell? ⟨b0, 0, none⟩ = some (.int .i64 kn) := HB1.out.cell 0
  have HK1 := hide hk1
  clear hz1 hb1 hk1 hb0
  go_wp2_with fail
  refine (rnum_at 1 (by decide) w1 kn (by omega)).mono ?_
  rintro e w2 ⟨rfl, hk2⟩
  have HB2 := hide (hk2.blk HB1.out (fun h => h))
  have HK2 := hide (HK1.out.trans hk2 (fun _ _ h => h))
  clear c0 hk2 HB1 HK1
  have c0 : w2.cell? ⟨b0, 0, none⟩ = some (.int .i64 kn) := HB2.out.cell 0
  by_cases h2 : (kn : Int) = 2
  · have e1 := HPut.out
    rw [if_pos h2, List.append_nil] at e1
    have HPF := hide e1
    have h2' : kn = 2 := by omega
    subst h2'
    clear e1 h2
    go_wp2
    go_ret
    exact ⟨by rw [HPF.out]; first | rfl | simp, HK2.out⟩
  · have e1 := HPut.out
    rw [if_neg h2] at e1
    have HPut2 := hide e1
    clear e1 HPut
    go_wp2
    refine hold_frame (p := fun fr => Code.wp Try.prog _ _ fr _) ?_
    intro fr hfr
    have e1 : fr.eval (.tmp 1) = .pointer (some ⟨b0, 0, none⟩) := by rw [hfr.out]; rfl
    have e3 : fr.eval (.tmp 3) = .string (strN (numB kn 1)) := by rw [hfr.out]; rfl
    have hts : fr.tmps.size = 49 := by rw [hfr.out]; rfl
    refine region_S0 99 Try.mixed ?_
    intro w0 hkw hheap
    have HBr := hide (hkw.blk HB2.out (fun h => h))
    have HK0 := hide (HK2.out.trans hkw (fun _ _ h => h))
    have hS0 : Kept (fun _ => False) w0 w0 := Kept.refl (fun _ => False) w0
    refine ⟨Kept (fun _ => False) w0, ?_⟩
    refine tkS 0 13 (v := .string (strN (numB kn 1))) hS0 rfl rfl (by kernel_rfl) (by kernel_rfl) (by kernel_rfl) (by kernel_rfl) (wanted_none rfl) (fun _ _ _ h => h) (fun U hU => r_move (by simp [eval_put_ne, eval_put_eq, size_put, hts, e3])) ?_
    refine tkS 1 14 (v := .pointer (some ⟨b0, 1, none⟩)) hS0 rfl rfl (by kernel_rfl) (by kernel_rfl) (by kernel_rfl) (by kernel_rfl) (wanted_none rfl) (fun _ _ _ h => h) (fun U hU => r_f24_1 (by simp [eval_put_ne, eval_put_eq, size_put, hts, e1])) ?_
    refine tkS 2 15 (v := .int .i64 tn) hS0 rfl rfl (by kernel_rfl) (by kernel_rfl) (by kernel_rfl) (by kernel_rfl) (wanted_none rfl) (fun _ _ _ h => h) (fun U hU => r_ld3 (b := b0) (o := 1) (by simp [eval_put_ne, eval_put_eq, size_put, hts]) (((hS0).trans hU (fun _ _ h => h)).blk HBr.out (fun h => h) |>.cell 1)) ?_
    refine tkS 4 17 (v := .pointer (some ⟨b0, 2, none⟩)) hS0 rfl rfl (by kernel_rfl) (by kernel_rfl) (by kernel_rfl) (by kernel_rfl) (wanted_none rfl) (fun _ _ _ h => h) (fun U hU => r_f24_2 (by simp [eval_put_ne, eval_put_eq, size_put, hts, e1])) ?_
    refine tkS 5 18 (v := .int .i64 nn) hS0 rfl rfl (by kernel_rfl) (by kernel_rfl) (by kernel_rfl) (by kernel_rfl) (wanted_none rfl) (fun _ _ _ h => h) (fun U hU => r_ld3 (b := b0) (o := 2) (by simp [eval_put_ne, eval_put_eq, size_put, hts]) (((hS0).trans hU (fun _ _ h => h)).blk HBr.out (fun h => h) |>.cell 2)) ?_
    refine oneCS 3 16 (by kernel_rfl) rfl rfl (wanted_none rfl) (r_call2 Try.func22 (by kernel_rfl) rfl rfl (by simp [eval_put_ne, eval_put_eq, size_put, hts]) rfl) (rnum_at 4 (by decide) w0 tn (by omega)) ?_
    rintro e v1 ⟨rfl, k1⟩
    refine ⟨_, rfl, k1, ?_⟩
    have kk1 : Kept (fun _ => False) w0 v1 := k1
    refine raiseM (S' := Kept (fun _ => False) v1) (fun U hU => k1.trans hU (fun _ _ h => h)) ?_
    have hs1 : (Kept (fun _ => False) v1) _ := Kept.refl _ _
    refine oneCS 6 19 (by kernel_rfl) rfl rfl (wanted_none rfl) (r_call2 Try.func22 (by kernel_rfl) rfl rfl (by simp [eval_put_ne, eval_put_eq, size_put, hts]) rfl) (rnum_at 8 (by decide) v1 nn (by omega)) ?_
    rintro e v2 ⟨rfl, k2⟩
    refine ⟨_, rfl, k2, ?_⟩
    have kk2 : Kept (fun _ => False) w0 v2 := kk1.trans k2 (fun _ _ h => h)
    refine raiseM (S' := Kept (fun _ => False) v2) (fun U hU => k2.trans hU (fun _ _ h => h)) ?_
    have hs2 : (Kept (fun _ => False) v2) _ := Kept.refl _ _
    refine tkS 7 20 (v := .string (strN (numB tn 4 ++ numB nn 8))) hs2 rfl rfl (by kernel_rfl) (by kernel_rfl) (by kernel_rfl) (by kernel_rfl) (wanted_none rfl) (fun _ _ _ h => h) (fun U hU => r_add9 (A := numB tn 4) (B := numB nn 8) (by simp [numB_length]) (by simp [eval_put_ne, eval_put_eq, size_put, hts]) (by simp [eval_put_ne, eval_put_eq, size_put, hts])) ?_
    refine tkS 8 21 (v := .string (strN (numB kn 1 ++ (numB tn 4 ++ numB nn 8)))) hs2 rfl rfl (by kernel_rfl) (by kernel_rfl) (by kernel_rfl) (by kernel_rfl) (wanted_none rfl) (fun _ _ _ h => h) (fun U hU => r_add9 (A := numB kn 1) (B := numB tn 4 ++ numB nn 8) (by simp [numB_length]) (by simp [eval_put_ne, eval_put_eq, size_put, hts]) (by simp [eval_put_ne, eval_put_eq, size_put, hts])) ?_
    refine tkS 9 3 (v := .string (strN (numB kn 1 ++ (numB tn 4 ++ numB nn 8)))) hs2 rfl rfl (by kernel_rfl) (by kernel_rfl) (by kernel_rfl) (by kernel_rfl) (wanted_none rfl) (fun _ _ _ h => h) (fun U hU => r_assign (by simp [eval_put_ne, eval_put_eq, size_put, hts])) ?_
    refine doneS (by kernel_rfl) ?_
    rw [hfr.out]
    clear hfr e1 e3 hts
    simp only [put_lit, put_none, List.set_cons_succ, List.set_cons_zero]
    have HB3 := hide (kk2.blk HBr.out (fun h => h))
    have HK3 := hide (HK0.out.trans kk2 (fun _ _ h => h))
    clear hS0 hs1 hs2 k1 k2 kk1 kk2 hkw hheap HBr HK0 HB2 HK2
    have c0 : v2.cell? ⟨b0, 0, none⟩ = some (.int .i64 kn) := HB3.out.cell 0
    have c3 : v2.cell? ⟨b0, 3, none⟩ = some (.slice xa n xc) := HB3.out.cell 3
    by_cases h3 : (kn : Int) = 3
    · have e1 := HPut2.out
      rw [if_pos h3] at e1
      have HPut3 := hide e1
      have hl64 : n ≤ 64 := by have := (HP6.out h3).1; rw [List.length_map, ← Hn.out] at this; exact this
      have HMem := hide (HP6.out h3).2
      have h3' : kn = 3 := by omega
      subst h3'
      clear e1 h3 HPut2 HP6 h2
      go_wp2_with fail
      refine (rnum_at 2 (by decide) v2 n (by omega)).mono ?_
      rintro e w5 ⟨rfl, hk5⟩
      have HB5 := hide (hk5.blk HB3.out (fun h => h))
      have HK5 := hide (HK3.out.trans hk5 (fun _ _ h => h))
      clear c0 c3 hk5 HB3 HK3
      have c3 : w5.cell? ⟨b0, 3, none⟩ = some (.slice xa n xc) := HB5.out.cell 3
      obtain ⟨A, hA⟩ : ∃ A, A = numB 3 1 ++ (numB tn 4 ++ numB nn 8) ++ numB n 2 := ⟨_, rfl⟩
      have HA := hide hA
      have HAl : Hid (A.length = 15) := hide (by rw [hA]; simp [numB_length])
      clear hA
      go_wp2_with (first | (with_reducible refine stop_bin .add ?_) | fail)
      refine hide ?_
      refine wpList_run rfl (r_add9 (A := numB 3 1 ++ (numB tn 4 ++ numB nn 8)) (B := numB n 2) (by simp [numB_length]) rfl rfl) ?_
      rw [← HA.out]
      go_wp2
      go_loopw [3, 34] (fun sv kv W => ∃ k : Nat, sv = .string (strN (A ++ encWs ((l.take k).map Wv.wr))) ∧ kv = .int .i64 k ∧ k ≤ n ∧ Kept (fun _ => False) w5 W) (fun _ kv _ => n - (intOf kv).toNat)
      case atStart => exact ⟨0, by simp [encWs], rfl, Nat.zero_le _, Kept.refl _ _⟩
      case round =>
        obtain ⟨k, rfl, rfl, hk, hkr⟩ := hrel
        clear c3
        by_cases hlt : k < n
        · have hkl : k < l.length := by rw [← Hn.out]; exact hlt
          obtain ⟨g, off, rfl, d0, d1, hsrc, hnl⟩ := ((HW.out.kept HK5.out).kept hkr).get hkl
          have hm := HMem.out l[k].wr (List.mem_map.2 ⟨l[k], List.getElem_mem hkl, rfl⟩)
          have HT : Hid (encWs ((l.take (k + 1)).map Wv.wr) = encWs ((l.take k).map Wv.wr) ++ (numB l[k].blk.toNat 2 ++ l[k].B)) := hide (by rw [take_wr hkl, encWs_snoc]; rfl)
          have HCl' : Hid ((encWs ((l.take k).map Wv.wr)).length = 66 * k) := hide (by
            rw [encWs_length (fun w hw => by
              obtain ⟨y, hy, rfl⟩ := List.mem_map.1 hw
              exact (HMem.out y.wr (List.mem_map.2 ⟨y, List.mem_of_mem_take hy, rfl⟩)).2.2), List.length_map, List.length_take, Nat.min_eq_left (by omega)])
          obtain ⟨x, hx⟩ : ∃ x, x = l[k] := ⟨_, rfl⟩
          rw [← hx] at d0 d1 hsrc hnl hm HT
          obtain ⟨p, ⟨ya, yn, yc⟩, yB⟩ := x
          simp only [Wv.wr] at d0 d1 hnl hm HT
          obtain ⟨bn, hbn⟩ : ∃ bn : Nat, p = bn := ⟨p.toNat, by omega⟩
          subst hbn
          rw [Int.toNat_natCast] at HT
          have hb64 : bn < 64 := by omega
          have HyB := hide hm.2.2
          have HSy := hide hsrc
          clear hsrc hnl hm hx
          obtain ⟨C, hC⟩ : ∃ C, C = A ++ encWs ((l.take k).map Wv.wr) := ⟨_, rfl⟩
          have HCl : Hid (C.length ≤ 10000) := hide (by rw [hC, List.length_append, HAl.out, HCl'.out]; omega)
          have HC : Hid (A ++ encWs ((l.take (k + 1)).map Wv.wr) = C ++ (numB bn 2 ++ yB)) := hide (by rw [HT.out, hC, List.append_assoc])
          rw [← hC]
          clear hC HT HCl'
          go_wp2_with (first
            | ((with_reducible refine aw_alloc (t := 40) Hi40.out Hz40.out ?_); intro w6 hw6 hk6 hz6; have Yz6 := hide hz6; clear hz6 d0 d1)
            | ((with_reducible refine aw_store (M := [.int .i64 bn, .slice ya yn yc]) Try.agg40 rfl rfl rfl (by simp [Value.oneCell']) hw6 (by simp [Value.cells]) ?_); intro w7 hw7 hk7 hz7; rw [put_whole _ _ (by simp [Value.cells])] at hw7; have hkrr : Kept (fun _ => False) wr w7 := hk6.trans hk7 (fun i hi h => by omega); have hkr2 := hkr.trans hkrr (fun _ _ h => h); clear hz7)
            | fail)
          obtain ⟨b5, hb5⟩ : ∃ b, b = wr.heap.size := ⟨_, rfl⟩
          rw [← hb5] at hw7 ⊢
          have HC5 : Hid (Cells w7 b5 0 [.int .i64 bn, .slice ya yn yc]) := hide (fun i u hi => by rw [Nat.zero_add, hw7.cell]; exact hi)
          have HSy4 := hide (HSy.out.kept hkrr)
          clear hw6 hw7 hk6 hk7 hkr hkrr hb5 Yz6 HSy
          refine hold_frame (p := fun fr => Code.wp Try.prog _ _ fr _) ?_
          intro fr hfr
          have e3 : fr.eval (.tmp 3) = .string (strN C) := by rw [hfr.out]; rfl
          have e5 : fr.eval (.tmp 5) = .pointer (some ⟨b5, 0, none⟩) := by rw [hfr.out]; rfl
          have hts : fr.tmps.size = 49 := by rw [hfr.out]; rfl
          refine region_S0 99 Try.mixed ?_
          intro w0 hkw hheap
          have c5w := hkw.cells HC5.out (fun h => h)
          have hsw := HSy4.out.kept hkw
          have hS0 : Kept (fun _ => False) w0 w0 := Kept.refl (fun _ => False) w0
          refine ⟨Kept (fun _ => False) w0, ?_⟩
          refine tkS 0 38 (v := .string (strN C)) hS0 rfl rfl (by kernel_rfl) (by kernel_rfl) (by kernel_rfl) (by kernel_rfl) (wanted_none rfl) (fun _ _ _ h => h) (fun U hU => r_move (by simp [eval_put_ne, eval_put_eq, size_put, hts, e3])) ?_
          refine tkS 1 39 (v := .pointer (some ⟨b5, 0, none⟩)) hS0 rfl rfl (by kernel_rfl) (by kernel_rfl) (by kernel_rfl) (by kernel_rfl) (wanted_none rfl) (fun _ _ _ h => h) (fun U hU => r_f40_0 (by simp [eval_put_ne, eval_put_eq, size_put, hts, e5])) ?_
          refine tkS 2 40 (v := .int .i64 bn) hS0 rfl rfl (by kernel_rfl) (by kernel_rfl) (by kernel_rfl) (by kernel_rfl) (wanted_none rfl) (fun _ _ _ h => h) (fun U hU => r_ld3 (b := b5) (o := 0) (by simp [eval_put_ne, eval_put_eq, size_put, hts]) (by have := (((hS0).trans hU (fun _ _ h => h)).cells c5w (fun h => h)) 0 _ rfl; simpa using this)) ?_
          refine tkS 4 42 (v := .pointer (some ⟨b5, 1, none⟩)) hS0 rfl rfl (by kernel_rfl) (by kernel_rfl) (by kernel_rfl) (by kernel_rfl) (wanted_none rfl) (fun _ _ _ h => h) (fun U hU => r_f40_1 (b := b5) (o := 0) (by simp [eval_put_ne, eval_put_eq, size_put, hts, e5])) ?_
          refine tkS 5 43 (v := .slice ya yn yc) hS0 rfl rfl (by kernel_rfl) (by kernel_rfl) (by kernel_rfl) (by kernel_rfl) (wanted_none rfl) (fun _ _ _ h => h) (fun U hU => r_ld25 (b := b5) (o := 1) (by simp [eval_put_ne, eval_put_eq, size_put, hts]) (by have := (((hS0).trans hU (fun _ _ h => h)).cells c5w (fun h => h)) 1 _ rfl; simpa using this)) ?_
          refine tkS 6 44 (v := .string (strN yB)) hS0 rfl rfl (by kernel_rfl) (by kernel_rfl) (by kernel_rfl) (by kernel_rfl) (wanted_none rfl) (fun _ _ _ h => h) (fun U hU => r_strS (by simp [eval_put_ne, eval_put_eq, size_put, hts]) (hsw.kept ((hS0).trans hU (fun _ _ h => h)))) ?_
          refine oneCS 3 41 (by kernel_rfl) rfl rfl (wanted_none rfl) (r_call2 Try.func22 (by kernel_rfl) rfl rfl (by simp [eval_put_ne, eval_put_eq, size_put, hts]) rfl) (rnum_at 2 (by decide) w0 bn (by omega)) ?_
          rintro e v1 ⟨rfl, k1⟩
          refine ⟨_, rfl, k1, ?_⟩
          have kk1 : Kept (fun _ => False) w0 v1 := k1
          refine raiseM (S' := Kept (fun _ => False) v1) (fun U hU => k1.trans hU (fun _ _ h => h)) ?_
          have hs1 : (Kept (fun _ => False) v1) _ := Kept.refl _ _
          refine tkS 7 45 (v := .string (strN (numB bn 2 ++ yB))) hs1 rfl rfl (by kernel_rfl) (by kernel_rfl) (by kernel_rfl) (by kernel_rfl) (wanted_none rfl) (fun _ _ _ h => h) (fun U hU => r_add9 (A := numB bn 2) (B := yB) (by rw [numB_length, HyB.out]; decide) (by simp [eval_put_ne, eval_put_eq, size_put, hts]) (by simp [eval_put_ne, eval_put_eq, size_put, hts])) ?_
          refine tkS 8 46 (v := .string (strN (C ++ (numB bn 2 ++ yB)))) hs1 rfl rfl (by kernel_rfl) (by kernel_rfl) (by kernel_rfl) (by kernel_rfl) (wanted_none rfl) (fun _ _ _ h => h) (fun U hU => r_add9 (A := C) (B := numB bn 2 ++ yB) (by rw [List.length_append, numB_length, HyB.out]; have := HCl.out; omega) (by simp [eval_put_ne, eval_put_eq, size_put, hts]) (by simp [eval_put_ne, eval_put_eq, size_put, hts])) ?_
          refine tkS 9 3 (v := .string (strN (C ++ (numB bn 2 ++ yB)))) hs1 rfl rfl (by kernel_rfl) (by kernel_rfl) (by kernel_rfl) (by kernel_rfl) (wanted_none rfl) (fun _ _ _ h => h) (fun U hU => r_assign (by simp [eval_put_ne, eval_put_eq, size_put, hts])) ?_
          refine doneS (by kernel_rfl) ?_
          rw [hfr.out]
          clear hfr e3 e5 hts
          simp only [put_lit, put_none, List.set_cons_succ, List.set_cons_zero]
          have hkr3 := (hkr2.trans hkw (fun _ _ h => h)).trans kk1 (fun _ _ h => h)
          clear hS0 hs1 k1 kk1 hkw hheap c5w hsw
          go_wp2
          go_roundw
          case rel => exact ⟨k + 1, by rw [HC.out], by simp, by omega, hkr3⟩
          case measure => simp [intOf]; omega
        · obtain rfl : n = k := by omega
          obtain ⟨D, hD⟩ : ∃ D, D = A ++ encWs ((l.take n).map Wv.wr) := ⟨_, rfl⟩
          have HF : Hid (D = putR ⟨((3 : Nat) : Int), tn, nn, l.map Wv.wr⟩) := hide (by
            rw [hD, HPut3.out, HA.out, List.take_of_length_le (by rw [← Hn.out]; exact Nat.le_refl _)]
            simp only [List.append_assoc])
          rw [← hD]
          have HKr := hide (HK5.out.trans hkr (fun _ _ h => h))
          clear hkr hk hlt HPut3 hD
          go_wp2
          go_ret
          exact ⟨by rw [← HF.out]; rfl, HKr.out⟩
    · have e1 := HPut2.out
      rw [if_neg h3, List.append_nil] at e1
      have HPF := hide e1
      clear e1 HPut2
      go_wp2
      go_ret
      exact ⟨by rw [HPF.out]; first | rfl | simp, HK3.out⟩
theorem rrput_at (w : World) (x : Rv) (h : RcAt w x) (hr : rightR x.rc = true) : Calls Try.prog 10 #[x.agg] w fun e w' => e = .returned (.string (strN (putR x.rc))) ∧ Kept (fun _ => False) w w' := by
  obtain ⟨kd, tl, nm, ⟨xa, xn, xc⟩, l⟩ := x
  have hp := right_parts hr
  simp only [Rv.rc] at hp hr ⊢
  obtain ⟨p1, p2, _, p4, _⟩ := hp
  obtain ⟨kn, rfl⟩ : ∃ n : Nat, kd = n := ⟨kd.toNat, by omega⟩
  obtain ⟨tn, rfl⟩ : ∃ n : Nat, tl = n := ⟨tl.toNat, by omega⟩
  obtain ⟨nn, rfl⟩ : ∃ n : Nat, nm = n := ⟨nm.toNat, by omega⟩
  exact rrputP_at w kn tn nn xa xn xc l h hr

set_option maxHeartbeats 1000000 in
theorem rsect6_at (w : World) (n : Nat) (hn : n ≤ 2621400) : Calls Try.prog 23 #[.int .i64 n] w fun e w' => e = .returned (.int .i64 (sectN n : Nat)) ∧ Kept (fun _ => False) w w' := by
  obtain ⟨d, hd⟩ : ∃ d, d = n / 40 := ⟨_, rfl⟩
  obtain ⟨r, hr⟩ : ∃ r, r = n % 40 := ⟨_, rfl⟩
  have hd1 : (n : Int).tdiv 40 = d := by rw [Int.tdiv_eq_ediv_of_nonneg (by omega)]; omega
  have hd2 : (n : Int) / 40 = d := by omega
  have hr1 : (n : Int).tmod 40 = r := by rw [Int.tmod_eq_emod_of_nonneg (by omega)]; omega
  have hr2 : (n : Int) % 40 = r := by omega
  have Hs : Hid (sectN n = if r = 0 ∧ ¬ n = 0 then d else d + 1) := hide (by
    unfold sectN
    split <;> omega)
  have hdl : d ≤ 65535 := by omega
  obtain ⟨c, hc⟩ : ∃ c, c = sectN n := ⟨_, rfl⟩
  rw [← hc] at Hs ⊢
  have hn1 : ¬ (n : Int) < 0 := by omega
  have hn2 : ¬ 2621400 < (n : Int) := by omega
  clear hd hr hc
  by_cases h0 : r = 0
  · by_cases hz : n = 0
    · have e : c = d + 1 := by rw [Hs.out, if_neg (by omega)]
      have h0' : (r : Int) = 0 := by omega
      have hz' : (n : Int) = 0 := by omega
      clear Hs
      subst e
      go_enter Try.func23, Try.ntmps23
      go_wp2
      go_ret
      exact ⟨by first | (simp; done) | (simp; omega), Kept.refl _ _⟩
    · have e : c = d := by rw [Hs.out, if_pos ⟨h0, hz⟩]
      have h0' : (r : Int) = 0 := by omega
      have hz' : ¬ (n : Int) = 0 := by omega
      clear Hs
      subst e
      go_enter Try.func23, Try.ntmps23
      go_wp2
      go_ret
      exact ⟨by first | (simp; done) | (simp; omega), Kept.refl _ _⟩
  · have e : c = d + 1 := by rw [Hs.out, if_neg (by omega)]
    have h0' : ¬ (r : Int) = 0 := by omega
    clear Hs
    subst e
    go_enter Try.func23, Try.ntmps23
    go_wp2
    go_ret
    exact ⟨by first | (simp; done) | (simp; omega), Kept.refl _ _⟩

set_option maxRecDepth 100000 in
set_option maxHeartbeats 2000000 in
theorem rrsect_at (w : World) (x : Rv) (h : RcAt w x) (hr : rightR x.rc = true) : Calls Try.prog 11 #[x.agg] w fun e w' => e = .returned (.int .i64 (sectN (putR x.rc).length : Nat)) ∧ Kept (fun _ => False) w w' := by
  have HP : Hid (∀ w', Kept (fun _ => False) w w' → Calls Try.prog 10 #[x.agg] w' fun e w'' => e = .returned (.string (strN (putR x.rc))) ∧ Kept (fun _ => False) w' w'') := hide (fun w' hk => rrput_at w' x (h.kept hk) hr)
  have hl := putR_len hr
  obtain ⟨B, hB⟩ : ∃ B, B = putR x.rc := ⟨_, rfl⟩
  rw [← hB] at HP hl ⊢
  obtain ⟨kd, tl, nm, ⟨xa, xn, xc⟩, l⟩ := x
  simp only [Rv.agg] at HP ⊢
  have Hsz0 : Hid ((strN B).size = B.length) := hide (strN_size B)
  obtain ⟨m, hm⟩ : ∃ m, m = B.length := ⟨_, rfl⟩
  rw [← hm] at hl ⊢
  have Hsz : Hid ((strN B).size = m) := hide (by rw [Hsz0.out, hm])
  clear h hr hB hm Hsz0
  go_enter Try.func11, Try.ntmps11
  go_wp2_with (first
    | ((with_reducible refine aw_box (t := 24) (v := rAgg kd tl nm ⟨xa, xn, xc⟩) rfl ?_); intro w1 hb1 hk1 hz1; have Hz1 := hide hz1; clear hz1)
    | ((with_reducible refine aw_load (t := 24) (M := [.int .i64 kd, .int .i64 tl, .int .i64 nm, .slice xa xn xc]) Try.agg24 rfl hb1 (by simp [Value.cells]) (by simp [Value.cells]) ?_))
    | fail)
  refine (HP.out w1 hk1).mono ?_
  rintro e w2 ⟨rfl, hk2⟩
  have hk := hk1.trans hk2 (fun _ _ h => h)
  have hsz := Hsz.out
  clear hk1 hk2 hb1 HP
  go_wp2_with fail
  refine (rsect6_at w2 m (by omega)).mono ?_
  rintro e w3 ⟨rfl, hk3⟩
  go_wp2
  go_ret
  exact ⟨rfl, hk.trans hk3 (fun _ _ h => h)⟩
end Go.Proofs.Ytcdlgaknpmlfeaa
