/-
  The document's own Floor over a list of pairs.
-/
import Derived.Test.YtkchlmpfegjkfaaRefs
namespace Go.Proofs.Ytkchlmpfegjkfaa
open Go.RowKit Go.Shelf
set_option linter.unusedSimpArgs false
set_option linter.unusedVariables false

theorem stop_alloc {P : Program} {ops : Array Oper} {Q : Exit → Act → World → Prop} {a : Act} {w : World} {rest : List Oper} {dst : Option Tmp} {ty : TypeId} {pos : String} {aft : Array Edge} (t : TypeId) (h : Hid (wpList P ops Q (⟨dst, .alloc t, ty, pos, aft, none⟩ :: rest) a w)) : wpList P ops Q (⟨dst, .alloc t, ty, pos, aft, none⟩ :: rest) a w := h.out
theorem run_loadVar {P : Program} {t : TypeId} {n b : Nat} {L : List Value} {e : TypeId} {w : World} (ht : aggSize P t n) (hb : Blk w b L e) (hl : L.length = n) : (loadVar t ⟨b, 0, none⟩).run P w = .ok (.agg L.toArray) w := by
  have hc := run_loadCells_list (P := P) w ⟨b, 0, none⟩ L (fun j v hj => by rw [addr_add, hb.cell, Nat.zero_add]; exact hj)
  rw [hl] at hc
  simp [loadVar, run_isAgg ht, run_sizeOf ht, hc]
theorem results_cell2 {P : Program} {fn : Func} {t u : Tmp} {ty : TypeId} {n b : Nat} {L : List Value} {e : TypeId} {tmps : Array Value} {w : World} {v : Value} (h : fn.results = #[.cell t ty, .tmp u]) (ht : aggSize P ty n) (hx : tmps.getD t undef = .pointer (some ⟨b, 0, none⟩)) (hu : tmps.getD u undef = v) (hb : Blk w b L e) (hl : L.length = n) :
    (results fn tmps).run P w = .ok (.tuple #[.agg L.toArray, v]) w := by
  have hv := run_loadVar (P := P) ht hb hl
  simp only [Array.getD_eq_getD_getElem?] at hx hu
  simp [results, h, hx, hu, hv, asAddr]

set_option maxRecDepth 100000 in
set_option maxHeartbeats 1000000 in
theorem rfloor_at (w : World) (v : Value) (l : List EntI) (k : Int) (ho : OwnR w v l) (hs : Sorted ltI l) (hl : l.length ≤ 100000) :
    Calls Try.prog 30 #[v, .int .i64 k] w fun e w' => e = .returned (.tuple #[.agg #[.int .i64 (floKI (floorI l k)), .string (floVI (floorI l k))], .bool (floorI l k).isSome]) ∧ Kept (fun _ => False) w w' := by
  obtain ⟨i0, hi0, hz0, hs0, hb0⟩ := info_parts Try.info39
  have Hi0 := hide hi0
  have Hz0 := hide hz0
  have HS := hide hs
  obtain ⟨ao, cap, hcap, rfl, hsrc⟩ : ∃ ao cap, l.length ≤ cap ∧ v = .slice ao l.length cap ∧ (0 < l.length → ∃ g C, ao = some ⟨g, 0, none⟩ ∧ Blk w g (encE ekI evI l ++ C) 39) := by
    rcases ownsRow_blk ho with ⟨rfl, h0, _⟩ | ⟨g, cap, C, rfl, hb, hnc, hcm, hC⟩
    · exact ⟨none, 0, by omega, by rw [h0], fun h => by omega⟩
    · exact ⟨_, cap, hnc, rfl, fun _ => ⟨g, C, rfl, hb⟩⟩
  have HSrc := hide hsrc
  clear ho hs hsrc hi0 hz0 hs0 hb0
  go_enter Try.func30, Try.ntmps30
  go_wp2_with (with_reducible refine stop_alloc 39 ?_)
  refine hide ?_
  refine aw_alloc Hi0.out Hz0.out ?_
  intro w1 hb1 hk1 hz1
  have HZ1 := hide hz1
  clear hz1
  try simp only [put_lit, List.set_cons_succ, List.set_cons_zero]
  go_wp2_with (with_reducible refine stop_alloc 39 ?_)
  refine hide ?_
  refine aw_alloc Hi0.out Hz0.out ?_
  intro w2 hb2 hk2 hz2
  have HZ2 := hide hz2
  have HB4 := hide (hk2.blk hb1 (fun h => h))
  have HB6 := hide hb2
  have hk02 := hk1.trans hk2 (fun _ _ h => h)
  have hne : w.heap.size < w1.heap.size := by have := HZ1.out; omega
  clear hz2 hb1 hb2 hk1 hk2
  try simp only [put_lit, List.set_cons_succ, List.set_cons_zero]
  obtain ⟨B4, hB4⟩ : ∃ B4, B4 = w.heap.size := ⟨_, rfl⟩
  obtain ⟨B6, hB6⟩ : ∃ B6, B6 = w1.heap.size := ⟨_, rfl⟩
  rw [← hB4] at HB4 ⊢
  rw [← hB6] at HB6 ⊢
  have hB46 : B4 ≠ B6 := by omega
  have hB4w : w.heap.size ≤ B4 := by omega
  have hB6w : w.heap.size ≤ B6 := by omega
  clear hB4 hB6 hne
  go_wp2
  go_loopw [7, 12] (fun o i wr => ∃ (j : Nat), o = .bool (floJ l k j).isSome ∧ i = .int .i64 j ∧ j ≤ l.length ∧ Hid (Blk wr B6 [.int .i64 (floKI (floJ l k j)), .string (floVI (floJ l k j))] 39) ∧ Hid (Blk wr B4 [.int .i64 0, .string ⟨#[]⟩] 39) ∧ Kept (fun _ => False) w wr) (fun _ i _ => l.length - (intOf i).toNat)
  case atStart =>
    have e : floJ l k 0 = none := by simp [floJ]
    exact ⟨0, by rw [e]; rfl, rfl, Nat.zero_le _, by rw [e]; exact HB6, HB4, hk02⟩
  case round =>
    obtain ⟨j, rfl, rfl, hj, H6, H4, hk⟩ := hrel
    clear HB4 HB6 hk02
    by_cases hlt : j < l.length
    · obtain ⟨g, C, rfl, hb⟩ := HSrc.out (by omega)
      have ⟨h2, h3⟩ := two39 (w := w) (g := g) (C := C) j hlt
      have HB2 := hide (hk.blk hb (fun h => h))
      have hci := cnt_iff HS.out (k := k) hlt
      by_cases hc : j < cntI l k
      · have hkey := hci.2 hc
        have hfl := floJ_lo hlt hc
        obtain ⟨x, hx⟩ : ∃ x, x = l[j] := ⟨_, rfl⟩
        rw [← hx] at h2 hkey hfl
        have H2 := hide h2
        have H3 := hide h3
        have HFl := hide hfl
        generalize floJ l k j = fj at *
        clear h2 h3 hx hfl hci hc hb
        go_wp2_with (first
          | ((with_reducible refine aw_load (M := [.int .i64 x.1, .string x.2]) Try.agg39 rfl hw4 (by simp) rfl ?_))
          | ((with_reducible refine aw_load Try.agg39 rfl HB2.out H3.out H2.out ?_))
          | ((with_reducible refine aw_alloc Hi0.out Hz0.out ?_); intro w3 hw3 hk3 hz3; have Hz3 := hide hz3; clear hz3)
          | ((with_reducible refine aw_store (M := [.int .i64 x.1, .string x.2]) Try.agg39 rfl rfl rfl (by simp [Value.oneCell']) hw3 (by simp [Value.cells]) ?_); intro w4 hw4 hk4 hz4; have Hz4 := hide hz4; clear hz4 hw3; rw [put_whole _ _ (by simp [Value.cells])] at hw4; have c1 : w4.cell? ⟨wr.heap.size, 0, none⟩ = some (.int .i64 x.1) := hw4.cell 0; have H64 := hide ((hk3.trans hk4 (fun i hi h => by omega) : Kept (fun _ => False) wr w4).blk H6.out (fun h => h)))
          | ((with_reducible refine aw_store (M := [.int .i64 x.1, .string x.2]) Try.agg39 rfl rfl rfl (by simp [Value.oneCell']) H64.out (by simp [Value.cells]) ?_); intro w5 hw5 hk5 hz5; have Hz5 := hide hz5; clear hz5; rw [put_whole _ _ (by simp [Value.cells])] at hw5))
        have hkw : Kept (fun _ => False) wr w4 := hk3.trans hk4 (fun i hi h => by omega)
        go_roundw
        case rel => exact ⟨j + 1, by rw [HFl.out]; rfl, by simp, by omega, by rw [HFl.out]; exact hide hw5, hide (hk5.blk (hkw.blk H4.out (fun h => h)) hB46), (hk.trans hkw (fun _ _ h => h)).trans hk5 (fun i hi h => by omega)⟩
        case measure => simp [intOf]; omega
      · have hkey : ¬ l[j].1 ≤ k := fun h => hc (hci.1 h)
        have hfl := floJ_hi (l := l) hc
        obtain ⟨x, hx⟩ : ∃ x, x = l[j] := ⟨_, rfl⟩
        rw [← hx] at h2 hkey
        have H2 := hide h2
        have H3 := hide h3
        have HFl := hide hfl
        clear h2 h3 hx hfl hci hc hb
        go_wp2_with (first
          | ((with_reducible refine aw_load Try.agg39 rfl HB2.out H3.out H2.out ?_))
          | ((with_reducible refine aw_alloc Hi0.out Hz0.out ?_); intro w3 hw3 hk3 hz3; have Hz3 := hide hz3; clear hz3)
          | ((with_reducible refine aw_store (M := [.int .i64 x.1, .string x.2]) Try.agg39 rfl rfl rfl (by simp [Value.oneCell']) hw3 (by simp [Value.cells]) ?_); intro w4 hw4 hk4 hz4; have Hz4 := hide hz4; clear hz4; rw [put_whole _ _ (by simp [Value.cells])] at hw4; have c1 : w4.cell? ⟨wr.heap.size, 0, none⟩ = some (.int .i64 x.1) := hw4.cell 0))
        have hkw : Kept (fun _ => False) wr w4 := hk3.trans hk4 (fun i hi h => by omega)
        go_roundw
        case rel => exact ⟨j + 1, by rw [HFl.out], by simp, by omega, by rw [HFl.out]; exact hide (hkw.blk H6.out (fun h => h)), hide (hkw.blk H4.out (fun h => h)), hk.trans hkw (fun _ _ h => h)⟩
        case measure => simp [intOf]; omega
    · obtain rfl : j = l.length := by omega
      have HE := hide (floJ_end l k)
      obtain ⟨fl, hfl⟩ : ∃ fl, fl = floorI l k := ⟨_, rfl⟩
      rw [HE.out, ← hfl] at H6 ⊢
      have HFl := hide hfl
      clear hfl
      go_wp2_with (first
        | ((with_reducible refine aw_load (M := [.int .i64 (floKI fl), .string (floVI fl)]) Try.agg39 rfl H6.out (by simp) rfl ?_))
        | ((with_reducible refine aw_store (M := [.int .i64 (floKI fl), .string (floVI fl)]) Try.agg39 rfl rfl rfl (by simp [Value.oneCell']) H4.out (by simp [Value.cells]) ?_); intro w5 hw5 hk5 hz5; have Hz5 := hide hz5; clear hz5; rw [put_whole _ _ (by simp [Value.cells])] at hw5))
      refine bodyPost_ret (results_cell2 (t := 4) (u := 5) (ty := 39) rfl Try.agg39 rfl rfl hw5 rfl) rfl ⟨by rw [← HFl.out]; rfl, hk.trans hk5 (fun i hi h => by omega)⟩

end Go.Proofs.Ytkchlmpfegjkfaa
