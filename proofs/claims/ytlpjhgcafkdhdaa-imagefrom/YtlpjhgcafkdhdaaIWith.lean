/-
  With.
-/
import Derived.Test.YtlpjhgcafkdhdaaIGet
namespace Go.Proofs.Ytlpjhgcafkdhdaa
open Go.RowKit Go.Shelf
set_option linter.unusedSimpArgs false
set_option linter.unusedVariables false
set_option maxRecDepth 100000

theorem run_arr62 {ρ : Operand → Value} {w : World} {dst : Option Tmp} {ty : TypeId} {x : Operand} {pos : String} {aft : Array Edge} {gd : Option (Nat × Bool)} {a : Option Addr} {n c : Nat} (hx : ρ x = .slice a n c) (hn : 64 ≤ n) :
    (execOp ρ ⟨dst, .sliceToArrayPointer 62 x, ty, pos, aft, gd⟩).run Try.prog w = .ok (.value (.pointer a)) w := by
  have h : ¬ n < 64 := by omega
  simp [execOp, hx, Instr.arrayAt, run_underlying Try.und62, h]
theorem run_load_cells {P : Program} {ρ : Operand → Value} {w : World} {dst : Option Tmp} {t ty : TypeId} {x : Operand} {pos : String} {aft : Array Edge} {gd : Option (Nat × Bool)} {b off n : Nat} {M : List Value}
    (ht : aggSize P t n) (hx : ρ x = .pointer (some ⟨b, off, none⟩)) (hM : M.length = n) (hc : Cells w b off M) :
    (execOp ρ ⟨dst, .load t x, ty, pos, aft, gd⟩).run P w = .ok (.value (.agg M.toArray)) w := by
  have hc := run_loadCells_list (P := P) w ⟨b, off, none⟩ M (fun j v hj => by rw [addr_add]; exact hc j v hj)
  rw [hM] at hc
  simp [execOp, Instr.loadAt, hx, Instr.sureAddr, loadVar, run_isAgg ht, run_sizeOf ht, hc]
theorem put_block {B b : List Nat} {C : List Value} {n k : Nat} (hl : B.length = 64 * n) (hk : k < n) (hb : b.length = 64) : put (BV B ++ C) (k * 64) (BV b) = BV (putB B k b) ++ C := by
  have h1 : (BV B).length = 64 * n := by rw [BV_length, hl]
  have h2 : (BV b).length = 64 := by rw [BV_length, hb]
  unfold put putB
  rw [h2, Nat.mul_comm k 64, List.take_append_of_le_length (by omega), List.drop_append_of_le_length (by omega), BV_append, BV_append, BV_take, BV_drop]
  simp
theorem with_nil (w : World) (v : Value) : Calls Try.prog 10 #[.pointer none, v] w fun e w' => e = .returned (.tuple #[.pointer none, .int .i64 1]) ∧ w = w' := by
  go_enter Try.func10, Try.ntmps10
  go_wp2
  go_ret2
  exact ⟨rfl, rfl⟩
theorem withE_take {n : Nat} {l : List Wr} {k : Nat} (hk : k < l.length) (h : withE n (l.take k) = 0) : withE n l = withE n (l.drop k) := by
  have := withE_append n (l.take k) (l.drop k)
  rw [List.take_append_drop, if_pos h] at this
  exact this
theorem withE_step {n : Nat} {l : List Wr} {k : Nat} (hk : k < l.length) (h : withE n (l.take k) = 0) : withE n l = if ¬ (0 ≤ l[k].blk ∧ l[k].blk < n) then 41 else if l[k].B.length ≠ 64 then 42 else withE n (l.drop (k + 1)) := by
  rw [withE_take hk h, List.drop_eq_getElem_cons hk]
  rfl
theorem withE_take1 {n : Nat} {l : List Wr} {k : Nat} (hk : k < l.length) (h : withE n (l.take k) = 0) (h1 : 0 ≤ l[k].blk ∧ l[k].blk < n) (h2 : l[k].B.length = 64) : withE n (l.take (k + 1)) = 0 := by
  rw [List.take_add_one, withE_append, if_pos h, List.getElem?_eq_getElem hk]
  simp only [Option.toList, withE]
  rw [if_neg (by simpa using h1), if_neg (by simpa using h2)]
theorem withB_take1 {B : List Nat} {l : List Wr} {k : Nat} (hk : k < l.length) : withB B (l.take (k + 1)) = putB (withB B (l.take k)) l[k].blk.toNat l[k].B := by
  rw [List.take_add_one, withB_append, List.getElem?_eq_getElem hk]
  rfl
theorem wr_get {l : List Wv} {k : Nat} (hk : k < l.length) : (l.map Wv.wr)[k]'(by simpa using hk) = ⟨l[k].blk, l[k].B⟩ := by simp [Wv.wr]
/-- What With answers. -/
def WithIs (w' : World) (d' : Value) (n : Nat) (B : List Nat) (l : List Wr) : Prop := (withE n l = 0 → DkAt w' d' n (withB B l)) ∧ (withE n l ≠ 0 → d' = .pointer none)

set_option maxRecDepth 100000 in
set_option maxHeartbeats 4000000 in
theorem with_at (w : World) (d : Value) (n : Nat) (B : List Nat) (h : DkAt w d n B) (hn : 1 ≤ n) (v : Value) (l : List Wv) (hl : WsAt w v l) :
    Calls Try.prog 10 #[d, v] w fun e w' => ∃ d', e = .returned (.tuple #[d', .int .i64 (withE n (l.map Wv.wr))]) ∧ WithIs w' d' n B (l.map Wv.wr) ∧ Kept (fun _ => False) w w' := by
  have HD := hide h
  rcases h with ⟨rfl, rfl, rfl⟩ | ⟨h1, h2, h3, h4, b, g, cap, C, rfl, h6, h7, h8⟩
  · omega
  obtain ⟨ao, cap0, rfl⟩ := hl.slice
  have HL := hide hl
  have hmax := hl.2.2
  have c0 : w.cell? ⟨b, 0, none⟩ = some (.slice (some ⟨g, 0, none⟩) n cap) := h6.cell 0
  have HC := hide (kclone_at w g n cap B C h3 ⟨h1, h2⟩ h7)
  have H3 := hide h3
  have H12 := hide (And.intro h1 h2)
  obtain ⟨i0, hi0, hz0, hs0, hb0⟩ := info_parts Try.info53
  have Hi0 := hide hi0
  have Hz0 := hide hz0
  have Hhas := hide (fun (w' : World) (hk : Kept (fun _ => False) w w') (k : Int) (r : Bool) (hr : decide (0 ≤ k ∧ k < n) = r) => has_at w' _ n B (HD.out.kept hk) k r hr)
  clear h1 h2 h3 h4 h6 h7 h8 hl hi0 hz0 hs0 hb0 hn
  go_enter Try.func10, Try.ntmps10
  go_wp2_with (first
    | (go_at_call 25; refine HC.out.mono ?_; rintro e w1 ⟨g', cap', C', rfl, hg1, hg2, hg3, hg4, hg5, hg6⟩; have HG := hide (And.intro hg1 (And.intro hg2 (And.intro hg3 (And.intro hg4 (And.intro hg5 hg6))))); clear hg1 hg2 hg3 hg4 hg5 hg6 c0)
    | (with_reducible refine wpList_run rfl (Try.build58 rfl rfl) ?_)
    | ((with_reducible refine aw_box (v := .agg #[.slice (some ⟨g', 0, none⟩) n cap']) rfl ?_); intro w2 hw2 hk2 hz2; have HW2 := hide hw2; have HK2 := hide hk2; have HZ2 := hide hz2; clear hw2 hk2 hz2))
  obtain ⟨hg1, hg2, hg3, hg4, hg5, hg6⟩ := HG.out
  have hb' : w.heap.size ≤ w1.heap.size := hg6.size
  have hgb : g' ≠ w1.heap.size := by have := hg2.lt; omega
  have HNE := hide (And.intro hg1 (And.intro hb' hgb))
  have HGB := hide (And.intro hg3 (And.intro hg4 hg5))
  have hkw2 : Kept (fun _ => False) w w2 := hg6.trans HK2.out (fun _ _ h => h)
  have hG2 := HK2.out.blk hg2 (fun h => h)
  have HKW2 := hide hkw2
  have HG2 := hide hG2
  clear hg1 hg2 hg3 hg4 hg5 hg6 hb' hgb hkw2 hG2 HG
  go_loopw [20] (fun i wr => ∃ k : Nat, i = .int .i64 k ∧ k ≤ l.length ∧ Hid (withE n ((l.map Wv.wr).take k) = 0) ∧ Kept (fun _ => False) w wr ∧ Blk wr w1.heap.size [.slice (some ⟨g', 0, none⟩) n cap'] 58 ∧ Hid (Blk wr g' (BV (withB B ((l.map Wv.wr).take k)) ++ C') 62))
    (fun i _ => l.length - (intOf i).toNat)
  case atStart => exact ⟨0, rfl, Nat.zero_le _, hide rfl, HKW2.out, HW2.out, hide HG2.out⟩
  case round =>
    obtain ⟨k, rfl, hk, HE, hkr, hbr, HGr⟩ := hrel
    by_cases hlt : k < l.length
    · obtain ⟨ga, off, rfl, c0, c1, hsa, hna⟩ := (HL.out.kept hkr).get hlt
      have hlm : k < (l.map Wv.wr).length := by simpa using hlt
      have hstep := withE_step hlm HE.out
      rw [wr_get hlt] at hstep
      have HSTEP := hide hstep
      have HSA := hide hsa
      have HNA := hide hna
      obtain ⟨p, hp⟩ : ∃ p, p = l[k].blk := ⟨_, rfl⟩
      obtain ⟨⟨pa, pn, pc⟩, hs⟩ : ∃ s, s = l[k].s := ⟨_, rfl⟩
      have HP := hide hp
      have HS := hide hs
      rw [← hp] at c0
      rw [← hs] at c1
      simp only at c1
      have hpn : pn = l[k].B.length := by rw [← hna, ← hs]
      have HPN := hide hpn
      clear hstep hsa hna hp hs hpn
      by_cases hin : 0 ≤ p ∧ p < n
      · by_cases h64 : pn = 64
        · obtain ⟨m, rfl⟩ : ∃ m : Nat, p = m := ⟨p.toNat, by omega⟩
          have hmn : m < n := by omega
          have hmI : (m : Int) < n := by omega
          subst h64
          go_wp2_with (first
            | ((with_reducible refine aw_alloc (t := 53) (dst := some 8) Hi0.out Hz0.out ?_); intro w3 hw3 hk3 hz3; have Hz3 := hide hz3; clear hz3 c0 c1)
            | ((with_reducible refine aw_store (M := [.int .i64 (m : Int), .slice pa 64 pc]) Try.agg53 rfl rfl rfl (by simp [Value.oneCell']) hw3 (by simp [Value.cells]) ?_); intro w4 hw4 hk4 hz4; rw [put_whole _ _ (by simp [Value.cells])] at hw4; have HK34 := hide (hk3.trans hk4 (S := fun _ => False) (fun i hi h => by omega)); have HK4 := hide (hkr.trans HK34.out (fun _ _ h => h)); have e0 : w4.cell? ⟨wr.heap.size, 0, none⟩ = some (.int .i64 (m : Int)) := hw4.cell 0; have e1 : w4.cell? ⟨wr.heap.size, 1, none⟩ = some (.slice pa 64 pc) := hw4.cell 1; have HW4 := hide hw4; clear hz4 hw3 hk3 hk4 hw4)
            | (go_at_call 23; refine (Hhas.out _ HK4.out m true (by simpa using hin)).mono ?_; rintro e w5 ⟨rfl, rfl⟩))
          refine region_tail 11 Try.mixed (by kernel_rfl) ?_
          intro w5 hk5 hz5
          simp only [List.take_succ_cons, List.take_zero, List.drop_succ_cons, List.drop_zero]
          have f0 : w5.cell? ⟨wr.heap.size, 0, none⟩ = some (.int .i64 m) := (hk5.blk HW4.out (fun h => h)).cell 0
          have f1 : w5.cell? ⟨wr.heap.size, 1, none⟩ = some (.slice pa 64 pc) := (hk5.blk HW4.out (fun h => h)).cell 1
          have hkr5 : Kept (fun _ => False) wr w5 := HK34.out.trans hk5 (fun _ _ h => h)
          have f2 : w5.cell? ⟨w1.heap.size, 0, none⟩ = some (.slice (some ⟨g', 0, none⟩) n cap') := (hkr5.blk hbr (fun h => h)).cell 0
          have hs5 := HSA.out.kept hkr5
          rw [← HS.out] at hs5
          obtain ⟨bo, cap2, e, hs1, hs2, hs3, hs4⟩ := hs5
          simp only [Value.slice.injEq] at e
          obtain ⟨rfl, e2, rfl⟩ := e
          obtain ⟨sb, so, rfl, hcell⟩ := hs3 (by omega)
          have HCELL := hide hcell
          have HL64 := hide e2
          have HBlt := hide hs2
          have hgr5 := hide (hkr5.blk HGr.out (fun h => h))
          have hz5' := hide hz5
          have HKr5 := hide hkr5
          have HK5 := hide (HK4.out.trans hk5 (fun _ _ h => h))
          have hbr5 := hide (hkr5.blk hbr (fun h => h))
          clear e0 e1 e2 hs1 hs2 hs3 hs4 hcell hkr5 hk5 hbr hkr hz5
          still_step
          still_step
          still_step
          still_step
          still_step
          still_step
          still_step
          still_step
          refine wpStill_run rfl (run_arr62 rfl (by have := HL64.out; omega)) ?_
          refine wpStill_run rfl (run_load_cells Try.agg62 rfl (by rw [BV_length]; exact HL64.out.symm) HCELL.out) ?_
          still_step
          refine wpStill_nil ?_
          have hlen := withB_len H3.out HE.out
          refine aw_store (M := BV l[k].B) Try.agg62 rfl rfl (by rw [BV_length]; exact HL64.out.symm) (BV_one _) hgr5.out (by rw [List.length_append, BV_length, hlen]; omega) ?_
          intro w6 hw6 hk6 hz6
          rw [put_block hlen hmn HL64.out.symm] at hw6
          have hke : Hid (withE n ((l.map Wv.wr).take (k + 1)) = 0) := hide (withE_take1 hlm HE.out (by rw [wr_get hlt]; simp only; rw [← HP.out]; exact hin) (by rw [wr_get hlt]; exact HL64.out.symm))
          have hkb : Hid (Blk w6 g' (BV (withB B ((l.map Wv.wr).take (k + 1))) ++ C') 62) := by
            refine hide ?_
            rw [withB_take1 hlm, wr_get hlt]
            simp only
            rw [← HP.out, Int.toNat_natCast]
            exact hw6
          have hb6 : Hid (Blk w6 w1.heap.size [.slice (some ⟨g', 0, none⟩) n cap'] 58) := hide (hk6.blk hbr5.out (fun h => HNE.out.2.2 h.symm))
          have hk6' : Hid (Kept (fun _ => False) w w6) := hide (HK5.out.trans hk6 (fun i hi h => by have := HNE.out.1; omega))
          clear hw6 hk6 hz6 hlen
          go_wp2
          go_roundw
          case rel => exact ⟨k + 1, by simp, by omega, hke, hk6'.out, hb6.out, hkb⟩
          case measure => simp [intOf]; omega
        · go_wp2_with (first
            | ((with_reducible refine aw_alloc (t := 53) (dst := some 8) Hi0.out Hz0.out ?_); intro w3 hw3 hk3 hz3; have Hz3 := hide hz3; clear hz3 c0 c1)
            | ((with_reducible refine aw_store (M := [.int .i64 p, .slice pa pn pc]) Try.agg53 rfl rfl rfl (by simp [Value.oneCell']) hw3 (by simp [Value.cells]) ?_); intro w4 hw4 hk4 hz4; rw [put_whole _ _ (by simp [Value.cells])] at hw4; have HK34 := hide (hk3.trans hk4 (S := fun _ => False) (fun i hi h => by omega)); have HK4 := hide (hkr.trans HK34.out (fun _ _ h => h)); have e0 : w4.cell? ⟨wr.heap.size, 0, none⟩ = some (.int .i64 p) := hw4.cell 0; have e1 : w4.cell? ⟨wr.heap.size, 1, none⟩ = some (.slice pa pn pc) := hw4.cell 1; have HW4 := hide hw4; clear hz4 hw3 hk3 hk4 hw4)
            | (go_at_call 23; refine (Hhas.out _ HK4.out p true (by simpa using hin)).mono ?_; rintro e w5 ⟨rfl, rfl⟩))
          go_ret2
          have he : withE n (l.map Wv.wr) = 42 := by rw [HSTEP.out, ← HP.out, if_neg (by simpa using hin), if_pos (by rw [← HPN.out]; exact h64)]
          exact ⟨.pointer none, by rw [he]; rfl, ⟨fun h => absurd (he.symm.trans h) (by decide), fun _ => rfl⟩, HK4.out⟩
      · go_wp2_with (first
          | ((with_reducible refine aw_alloc (t := 53) (dst := some 8) Hi0.out Hz0.out ?_); intro w3 hw3 hk3 hz3; have Hz3 := hide hz3; clear hz3 c0 c1)
          | ((with_reducible refine aw_store (M := [.int .i64 p, .slice pa pn pc]) Try.agg53 rfl rfl rfl (by simp [Value.oneCell']) hw3 (by simp [Value.cells]) ?_); intro w4 hw4 hk4 hz4; rw [put_whole _ _ (by simp [Value.cells])] at hw4; have HK34 := hide (hk3.trans hk4 (S := fun _ => False) (fun i hi h => by omega)); have HK4 := hide (hkr.trans HK34.out (fun _ _ h => h)); have e0 : w4.cell? ⟨wr.heap.size, 0, none⟩ = some (.int .i64 p) := hw4.cell 0; have e1 : w4.cell? ⟨wr.heap.size, 1, none⟩ = some (.slice pa pn pc) := hw4.cell 1; have HW4 := hide hw4; clear hz4 hw3 hk3 hk4 hw4)
          | (go_at_call 23; refine (Hhas.out _ HK4.out p false (by simpa using hin)).mono ?_; rintro e w5 ⟨rfl, rfl⟩))
        go_ret2
        have he : withE n (l.map Wv.wr) = 41 := by rw [HSTEP.out, ← HP.out, if_pos hin]
        exact ⟨.pointer none, by rw [he]; rfl, ⟨fun h => absurd (he.symm.trans h) (by decide), fun _ => rfl⟩, HK4.out⟩
    · obtain rfl : k = l.length := by omega
      go_wp2
      go_ret2
      have htk : (l.map Wv.wr).take l.length = l.map Wv.wr := List.take_of_length_le (by simp)
      have he := HE.out
      rw [htk] at he
      have hG := HGr.out
      rw [htk] at hG
      refine ⟨_, by rw [he]; rfl, ⟨fun _ => .inr ⟨H12.out.1, H12.out.2, withB_len H3.out he, ?_, _, _, _, _, rfl, hbr, hG, HGB.out⟩, fun h => absurd he h⟩, hkr⟩
      refine withB_lt HD.out.lt (fun x hx => ?_)
      obtain ⟨y, hy, rfl⟩ := List.mem_map.1 hx
      exact (HL.out.2.1 y hy).lt
end Go.Proofs.Ytlpjhgcafkdhdaa
