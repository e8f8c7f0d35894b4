/-
  TxnPlays, walked.
-/
import Derived.Test.YtclfklcboigifaaTxPlM
import Derived.Test.YtclfklcboigifaaTxWrM
namespace Go.Proofs.Ytclfklcboigifaa
open Go.RowKit Go.Shelf
set_option linter.unusedSimpArgs false
set_option linter.unusedVariables false
set_option maxRecDepth 100000

section
variable {ρ : Operand → Value} {w : World} {dst : Option Tmp} {ty : TypeId} {pos : String} {aft : Array Edge} {gd : Option (Nat × Bool)} {x y z : Operand}
theorem r_rem6 {v q : Int} (hx : ρ x = .int .u64 v) (hy : ρ y = .int .u64 6) (h0 : 0 ≤ v) (hq : v % 6 = q) :
    (execOp ρ ⟨dst, .binOp .rem 43 x y 43, ty, pos, aft, gd⟩).run Try.prog w = .ok (.value (.int .u64 q)) w := by
  have ht : v.tmod 6 = q := by rw [Int.tmod_eq_emod_of_nonneg h0]; exact hq
  go_simp
theorem r_bookK {n : Int} (hx : ρ x = .int .i64 n) :
    (execOp ρ ⟨dst, .build 30 #[(0, x)], ty, pos, aft, gd⟩).run Try.prog w = .ok (.value (.agg #[.int .i64 n, .int .i64 0, .slice none 0 0])) w := by
  obtain ⟨i0, hi0, hz0, hs0, hb0⟩ := info_parts Try.info30
  have hp : ∃ fields, Try.prog.underlying 30 = some (.struct fields) ∧ fields.toList.mapM (fun f => (Try.prog.info? f.type).map fun i => (f.offset, i.size)) = some [(0, 1), (1, 1), (2, 1)] := ⟨_, Try.underlying30, by kernel_rfl⟩
  obtain ⟨fields, hu, hp⟩ := hp
  have hb : Try.prog.built 30 [(0, .int .i64 n)] = some #[.int .i64 n, .int .i64 0, .slice none 0 0] := by
    simp only [Program.built, hi0, hu, hz0, hp]
    rw [fill_one _ _ 0 (.int .i64 n) _ 0 [.int .i64 n] rfl (by simp) (by simp [Value.cells]), fill_nil]
    rfl
  have hr := run_build (P := Try.prog) w 30 #[(0, .int .i64 n)] _ (by simpa using hb)
  simp [execOp, hx, hr]
theorem r_ixI {b off len cap : Nat} (i : Nat) {kk : IntKind} (hx : ρ x = .slice (some ⟨b, off, none⟩) len cap) (hy : ρ y = .int kk i) (hi : i < len) :
    (execOp ρ ⟨dst, .indexAddr 38 x y, ty, pos, aft, gd⟩).run Try.prog w = .ok (.value (.pointer (some ⟨b, off + i, none⟩))) w := by
  have h0 : ¬ ((i : Int) < 0) := by omega
  have h1 : (i : Int) < (len : Int) := by omega
  go_simp
theorem r_fX0 {b o : Nat} (hx : ρ x = .pointer (some ⟨b, o, none⟩)) : (execOp ρ ⟨dst, .fieldAddr 57 x 0, ty, pos, aft, gd⟩).run Try.prog w = .ok (.value (.pointer (some ⟨b, o, none⟩))) w := by
  go_simp
theorem r_neqI {p q : Int} (hx : ρ x = .int .i64 p) (hy : ρ y = .int .i64 q) : (execOp ρ ⟨dst, .binOp .neq 3 x y 3, ty, pos, aft, gd⟩).run Try.prog w = .ok (.value (.bool (p != q))) w := by
  go_simp
end
theorem Kept.cell_ofP {w w' : World} {b o : Nat} {v : Value} (hk : Kept (fun _ => False) w w') (h : w.cell? ⟨b, o, none⟩ = some v) : w'.cell? ⟨b, o, none⟩ = some v := by
  have := hk.cells (cell_one h) (fun h => h) 0 v rfl
  simpa using this
set_option maxHeartbeats 1000000 in
theorem txplays_no (W : World) (n : Int) (h : n < 1 ∨ 64 < n) (v : Value) : Calls Try.prog 3 #[.int .i64 n, v] W fun e w' => e = .returned (.bool true) ∧ Kept (fun _ => False) W w' := by
  obtain ⟨i0, hi0, hz0, hs0, hb0⟩ := info_parts Try.info30
  have Hi0 := hide hi0
  have Hz0 := hide hz0
  have HN := hide h
  clear hi0 hz0 hs0 hb0 h
  have H : ∀ (c : Bool), (c = true → n < 1) → (c = false → ¬ n < 1 ∧ 64 < n) → Calls Try.prog 3 #[.int .i64 n, v] W fun e w' => e = .returned (.bool true) ∧ Kept (fun _ => False) W w' := by
    intro c h1 h2
    cases c with
    | true =>
      have h1 := h1 rfl
      clear h2
      go_enter Try.func3, Try.ntmps3
      go_wp2_with fail
      refine (first_at W).mono ?_
      rintro e w1 ⟨rfl, hk1⟩
      have HK1 := hide hk1
      clear hk1
      go_wp2_with fail
      refine (txnew_no w1 n HN.out).mono ?_
      rintro e w2 ⟨rfl, rfl⟩
      go_wp2_with (with_reducible refine stop_build 30 ?_)
      refine hide ?_
      refine wpList_run rfl (r_bookK rfl) ?_
      simp only [put_lit, List.set_cons_succ, List.set_cons_zero]
      go_wp2_with (first
        | ((with_reducible refine aw_alloc (t := 30) (dst := some 7) Hi0.out Hz0.out ?_); intro w3 hw3 hk3 hz3; have HK3 := hide hk3; have HW3 := hide hw3; clear hz3 hw3 hk3)
        | ((with_reducible refine aw_store (M := [.int .i64 n, .int .i64 0, .slice none 0 0]) Try.agg30 rfl rfl rfl (by simp [Value.oneCell']) HW3.out (by simp [Value.cells]) ?_); intro w4 hw4 hk4 hz4; have HK4 := hide ((HK1.out.trans HK3.out (fun _ _ h => h)).trans hk4 (S := fun _ => False) (fun i hi h => by have := HK1.out.size; omega)); clear hz4 hw4 hk4)
        | fail)
      refine (begin_nil w4).mono ?_
      rintro e w5 ⟨rfl, rfl⟩
      go_wp2_with fail
      refine (writes_nil w4 1).mono ?_
      rintro e w5 ⟨rfl, rfl⟩
      go_wp2_with fail
      refine (clear_nil w4).mono ?_
      rintro e w5 ⟨rfl, rfl⟩
      go_wp2_with fail
      refine (end_nil w4 1).mono ?_
      rintro e w5 ⟨rfl, rfl⟩
      go_wp2_with fail
      refine (write_nil w4 1 0 ⟨none, 0, 0⟩).mono ?_
      rintro e w5 ⟨rfl, rfl⟩
      go_wp2_with fail
      refine (open_nil w4).mono ?_
      rintro e w5 ⟨rfl, rfl⟩
      go_wp2
      go_ret
      exact ⟨rfl, HK4.out⟩
    | false =>
      have h2 := h2 rfl
      have h3 := h2.1
      have h4 := h2.2
      clear h1 h2
      go_enter Try.func3, Try.ntmps3
      go_wp2_with fail
      refine (first_at W).mono ?_
      rintro e w1 ⟨rfl, hk1⟩
      have HK1 := hide hk1
      clear hk1
      go_wp2_with fail
      refine (txnew_no w1 n HN.out).mono ?_
      rintro e w2 ⟨rfl, rfl⟩
      go_wp2_with (with_reducible refine stop_build 30 ?_)
      refine hide ?_
      refine wpList_run rfl (r_bookK rfl) ?_
      simp only [put_lit, List.set_cons_succ, List.set_cons_zero]
      go_wp2_with (first
        | ((with_reducible refine aw_alloc (t := 30) (dst := some 7) Hi0.out Hz0.out ?_); intro w3 hw3 hk3 hz3; have HK3 := hide hk3; have HW3 := hide hw3; clear hz3 hw3 hk3)
        | ((with_reducible refine aw_store (M := [.int .i64 n, .int .i64 0, .slice none 0 0]) Try.agg30 rfl rfl rfl (by simp [Value.oneCell']) HW3.out (by simp [Value.cells]) ?_); intro w4 hw4 hk4 hz4; have HK4 := hide ((HK1.out.trans HK3.out (fun _ _ h => h)).trans hk4 (S := fun _ => False) (fun i hi h => by have := HK1.out.size; omega)); clear hz4 hw4 hk4)
        | fail)
      refine (begin_nil w4).mono ?_
      rintro e w5 ⟨rfl, rfl⟩
      go_wp2_with fail
      refine (writes_nil w4 1).mono ?_
      rintro e w5 ⟨rfl, rfl⟩
      go_wp2_with fail
      refine (clear_nil w4).mono ?_
      rintro e w5 ⟨rfl, rfl⟩
      go_wp2_with fail
      refine (end_nil w4 1).mono ?_
      rintro e w5 ⟨rfl, rfl⟩
      go_wp2_with fail
      refine (write_nil w4 1 0 ⟨none, 0, 0⟩).mono ?_
      rintro e w5 ⟨rfl, rfl⟩
      go_wp2_with fail
      refine (open_nil w4).mono ?_
      rintro e w5 ⟨rfl, rfl⟩
      go_wp2
      go_ret
      exact ⟨rfl, HK4.out⟩
  rcases HN.out with h | h
  · exact H true (fun _ => h) (fun e => by cases e)
  · by_cases h1 : n < 1
    · exact H true (fun _ => h1) (fun e => by cases e)
    · exact H false (fun e => by cases e) (fun _ => ⟨h1, h⟩)
set_option maxHeartbeats 60000000 in
theorem txplays_ok (W : World) (n : Int) (hn1 : ¬ n < 1) (hn2 : ¬ 64 < n) (v0 : Value) (m : Nat) (hl : OpsT W v0 m) : Calls Try.prog 3 #[.int .i64 n, v0] W fun e w' => e = .returned (.bool true) ∧ Kept (fun _ => False) W w' := by
  obtain ⟨ao, cap, rfl, hm⟩ := hl.slice
  have HOps := hide hl
  obtain ⟨i0, hi0, hz0, hs0, hb0⟩ := info_parts Try.info30
  have Hi0 := hide hi0
  have Hz0 := hide hz0
  obtain ⟨i5, hi5, hz5, hs5, hb5⟩ := info_parts Try.info42
  have Hi5 := hide hi5
  have Hz5 := hide hz5
  clear hl hi0 hz0 hs0 hb0 hi5 hz5 hs5 hb5
  go_enter Try.func3, Try.ntmps3
  go_wp2_with fail
  refine (first_at W).mono ?_
  rintro e w1 ⟨rfl, hk1⟩
  have HK1 := hide hk1
  clear hk1
  go_wp2_with fail
  refine (txnew_ok w1 n (by omega) (by omega)).mono ?_
  rintro e w2 ⟨b, X2, rfl, hb2, hk2, hn2'⟩
  have T2 : Hid (Tw W w2 b n 0 [] X2) := hide ⟨hb2, HK1.out.trans hk2 (fun _ _ h => h), fun k hk => Nat.le_trans HK1.out.size (hn2' k hk)⟩
  clear hb2 hk2 hn2' HK1
  go_wp2_with (with_reducible refine stop_build 30 ?_)
  refine hide ?_
  refine wpList_run rfl (r_bookK rfl) ?_
  simp only [put_lit, List.set_cons_succ, List.set_cons_zero]
  go_wp2_with (first
    | ((with_reducible refine aw_alloc (t := 30) (dst := some 7) Hi0.out Hz0.out ?_); intro w3 hw3 hk3 hz3; have HK3 := hide hk3; have HW3 := hide hw3; clear hz3 hw3 hk3)
    | (with_reducible refine stop_store 30 ?_)
    | fail)
  refine hide ?_
  refine aw_store (M := [.int .i64 n, .int .i64 0, .slice none 0 0]) Try.agg30 rfl rfl rfl (by simp [Value.oneCell']) HW3.out (by simp [Value.cells]) ?_
  intro w4 hw4 hk4 hz4
  rw [put_whole _ _ (by simp [Value.cells])] at hw4
  obtain ⟨bx, hbx⟩ : ∃ bx, w2.heap.size = bx := ⟨_, rfl⟩
  have hk24 : Kept (fun _ => False) w2 w4 := HK3.out.trans hk4 (S := fun _ => False) (fun i hi h => by omega)
  have P0 : Hid (PS W w4 b bx n 0 [] X2 0 (.slice none 0 0) []) := hide
    { tw := T2.out.same hk24, blk := by rw [← hbx]; exact hw4, rf := RfT.nil _ _, nx := fun h => by have := T2.out.lt bx h; omega, ge := by rw [← hbx]; exact T2.out.kept.size }
  rw [hbx]
  clear hw4 hk4 hz4 hbx hk24 HW3 HK3 T2
  try simp only [put_lit, put_none, List.set_cons_succ, List.set_cons_zero]
  go_wp2
  go_loopw [92] (fun i wr => ∃ (k : Nat) (la : Int) (L : Txs) (X : NSet) (v : Value) (E : List EntX), i = .int .i64 k ∧ k ≤ m ∧ k ≤ 60 ∧ Hid (PS W wr b bx n la L X la v E) ∧ Hid (PR n la L E k)) (fun i _ => m - (intOf i).toNat)
  case atStart => exact ⟨0, 0, [], X2, _, [], rfl, Nat.zero_le _, by omega, P0, hide (PR.zero n)⟩
  case round =>
    clear P0
    obtain ⟨k, la, L, X, v, E, rfl, hk, hk60, HS, HR⟩ := hrel
    by_cases hlt : k < m
    · obtain ⟨g, off, ⟨kd, hh, kk, ⟨sa, sn, sc⟩, B⟩, rfl, hcr, hop, hop0⟩ := HOps.out.get HS.out.tw.kept hlt
      have hsn := hop.len
      simp only at hsn
      subst hsn
      have Hcr : Hid (Cells wr g (off + k * 4) [Value.int .i64 kd, .int .i64 hh, .int .i64 kk, .slice sa B.length sc]) := hide hcr
      have HO := hide hop0
      clear hcr hop hop0
      by_cases h60 : 60 ≤ k
      · have h60I : (60 : Int) ≤ (k : Int) := by omega
        go_wp2_with (first
          | (with_reducible refine aw_loadC Try.agg42 rfl Hcr.out rfl ?_)
          | ((with_reducible refine aw_alloc (t := 42) (dst := some 13) Hi5.out Hz5.out ?_); intro w3 hw3 hk3 hz3; have Hz3 := hide hz3; clear hz3)
          | ((with_reducible refine aw_store (M := [Value.int .i64 kd, .int .i64 hh, .int .i64 kk, .slice sa B.length sc]) Try.agg42 rfl rfl rfl (by simp [Value.oneCell']) hw3 (by simp [Value.cells]) ?_); intro w4 hw4 hk4 hz4; rw [put_whole _ _ (by simp [Value.cells])] at hw4; have HK34 := hide (hk3.trans hk4 (S := fun _ => False) (fun i hi h => by omega)); have e0 : w4.cell? ⟨wr.heap.size, 0, none⟩ = some (.int .i64 kd) := hw4.cell 0; have e3 : w4.cell? ⟨wr.heap.size, 3, none⟩ = some (.slice sa B.length sc) := hw4.cell 3; have HO4 := hide hw4; clear hz4 hw3 hk3 hk4 hw4)
          | fail)
        go_ret
        exact ⟨rfl, HS.out.tw.kept.trans HK34.out (fun _ _ h => h)⟩
      · have h60I : ¬ (60 : Int) ≤ (k : Int) := by omega
        by_cases h200 : 200 < B.length
        · have h200I : (200 : Int) < (B.length : Int) := by omega
          go_wp2_with (first
            | (with_reducible refine aw_loadC Try.agg42 rfl Hcr.out rfl ?_)
            | ((with_reducible refine aw_alloc (t := 42) (dst := some 13) Hi5.out Hz5.out ?_); intro w3 hw3 hk3 hz3; have Hz3 := hide hz3; clear hz3)
            | ((with_reducible refine aw_store (M := [Value.int .i64 kd, .int .i64 hh, .int .i64 kk, .slice sa B.length sc]) Try.agg42 rfl rfl rfl (by simp [Value.oneCell']) hw3 (by simp [Value.cells]) ?_); intro w4 hw4 hk4 hz4; rw [put_whole _ _ (by simp [Value.cells])] at hw4; have HK34 := hide (hk3.trans hk4 (S := fun _ => False) (fun i hi h => by omega)); have e0 : w4.cell? ⟨wr.heap.size, 0, none⟩ = some (.int .i64 kd) := hw4.cell 0; have e3 : w4.cell? ⟨wr.heap.size, 3, none⟩ = some (.slice sa B.length sc) := hw4.cell 3; have HO4 := hide hw4; clear hz4 hw3 hk3 hk4 hw4)
            | fail)
          go_ret
          exact ⟨rfl, HS.out.tw.kept.trans HK34.out (fun _ _ h => h)⟩
        · have h200I : ¬ (200 : Int) < (B.length : Int) := by omega
          go_wp2_with (first
            | (with_reducible refine aw_loadC Try.agg42 rfl Hcr.out rfl ?_)
            | ((with_reducible refine aw_alloc (t := 42) (dst := some 13) Hi5.out Hz5.out ?_); intro w3 hw3 hk3 hz3; have Hz3 := hide hz3; clear hz3)
            | ((with_reducible refine aw_store (M := [Value.int .i64 kd, .int .i64 hh, .int .i64 kk, .slice sa B.length sc]) Try.agg42 rfl rfl rfl (by simp [Value.oneCell']) hw3 (by simp [Value.cells]) ?_); intro w4 hw4 hk4 hz4; rw [put_whole _ _ (by simp [Value.cells])] at hw4; have HK34 := hide (hk3.trans hk4 (S := fun _ => False) (fun i hi h => by omega)); have e0 : w4.cell? ⟨wr.heap.size, 0, none⟩ = some (.int .i64 kd) := hw4.cell 0; have e3 : w4.cell? ⟨wr.heap.size, 3, none⟩ = some (.slice sa B.length sc) := hw4.cell 3; have HO4 := hide hw4; clear hz4 hw3 hk3 hk4 hw4)
            | (with_reducible refine stop_bin .rem ?_)
            | fail)
          refine hide ?_
          have hv0 : 0 ≤ IntKind.u64.wrap kd := by rw [IntKind.wrap_u64]; omega
          obtain ⟨q, hq⟩ : ∃ q, IntKind.u64.wrap kd % 6 = q := ⟨_, rfl⟩
          have hq6 : q = 0 ∨ q = 1 ∨ q = 2 ∨ q = 3 ∨ q = 4 ∨ q = 5 := by omega
          have HQ := hide hq
          have HV0 := hide hv0
          refine wpList_run rfl (r_rem6 (v := IntKind.u64.wrap kd) (q := q) rfl rfl HV0.out HQ.out) ?_
          have P4 := hide (HS.out.same HK34.out)
          have hobx : wr.heap.size ≠ bx := by have := HS.out.blk.lt; omega
          obtain ⟨ob, hob⟩ : ∃ ob, wr.heap.size = ob := ⟨_, rfl⟩
          rw [hob] at HO4 hobx e0 e3 ⊢
          have Hobx := hide hobx
          clear hq hv0 hobx hob HS HK34 Hz3 Hcr e0 e3 h60I h200I HQ HV0
          try simp only [put_lit, put_none, List.set_cons_succ, List.set_cons_zero]
          rcases hq6 with rfl | rfl | rfl | rfl | rfl | rfl
          · as_aux_lemma =>
            by_cases h8 : L.length < 8
            · skip
              go_wp2_with (first | (with_reducible refine stop_load 30 ?_) | fail)
              refine hide ?_
              refine aw_load (M := [.int .i64 n, .int .i64 la, v]) Try.agg30 rfl P4.out.blk (by simp) rfl ?_
              try simp only [put_lit, put_none, List.set_cons_succ, List.set_cons_zero]
              go_wp2_with fail
              refine (rbegin_at w4 n la v E _ P4.out.rf P4.out.lt (by rw [HR.out.eLen]; exact h8) ⟨HR.out.la0.1, by have := HR.out.la0.2; omega⟩).mono ?_
              rintro e w5 ⟨v5, rfl, hr5, hk5⟩
              obtain ⟨lb, hlb⟩ : ∃ lb, la + 1 = lb := ⟨_, rfl⟩
              rw [hlb] at hr5 ⊢
              have HLb := hide hlb
              have P5 := hide (P4.out.same hk5)
              have HO5 := hide (hk5.blk HO4.out (fun h => h))
              have HR5 := hide hr5
              clear hk5 hr5 hlb
              obtain ⟨qa, qc, hq5⟩ := (HR5.out.now).1.sl
              obtain ⟨qn, hqn⟩ : ∃ qn, (entsX (E ++ [(lb, ((⟨none, 0, 0⟩ : Sl), ([] : List Wv)))])).length = qn := ⟨_, rfl⟩
              rw [hqn] at hq5
              subst hq5
              clear hqn
              go_wp2_with (first
                | ((with_reducible refine aw_alloc (t := 30) (dst := some 16) Hi0.out Hz0.out ?_); intro w7 hw7 hk7 hz7; have HW7 := hide hw7; have HK7 := hide hk7; clear hw7 hk7 hz7)
                | ((with_reducible refine aw_store (x := .tmp 16) (M := [.int .i64 n, .int .i64 lb, .slice qa qn qc]) Try.agg30 rfl rfl rfl (by simp [Value.oneCell']) HW7.out (by simp [Value.cells]) ?_); intro w8 hw8 hk8 hz8; rw [put_whole _ _ (by simp [Value.cells])] at hw8; have HW8 := hide hw8; have HK8 := hide (HK7.out.trans hk8 (S := fun _ => False) (fun i hi h => by omega)); clear hw8 hk8 hz8)
                | ((with_reducible refine aw_load (M := [.int .i64 n, .int .i64 lb, .slice qa qn qc]) Try.agg30 rfl HW8.out (by simp) rfl ?_))
                | (with_reducible refine stop_store (x := .tmp 7) 30 ?_)
                | fail)
              refine hide ?_
              have P8 := hide (P5.out.same HK8.out)
              refine aw_store (M := [.int .i64 n, .int .i64 lb, .slice qa qn qc]) Try.agg30 rfl rfl rfl (by simp [Value.oneCell']) P8.out.blk (by simp) ?_
              intro w6 hw6 hk6 hz6
              rw [put_whole _ _ (by simp)] at hw6
              have P6 := hide (P8.out.store (HR5.out.same HK8.out) hw6 hk6)
              clear hw6 hk6 hz6 P5 P8 HR5 HO5 HW7 HW8 HK7 HK8
              try simp only [put_lit, put_none, List.set_cons_succ, List.set_cons_zero]
              go_wp2_with fail
              refine (begin_ok w6 b n la L X P6.out.tw.at_ h8 ⟨HR.out.la0.1, by have := HR.out.la0.2; omega⟩).mono ?_
              rintro e w9 ⟨rfl, hs9⟩
              obtain ⟨X9, hp9, _⟩ := P6.out.prog hs9
              have hr9 := HR.out.begin h8
              rw [HLb.out] at hp9 hr9 ⊢
              have P9 := hide hp9
              have R9 := hide hr9
              generalize putK ltI L lb [] = L9 at P9 R9
              generalize (E ++ [(lb, ((⟨none, 0, 0⟩ : Sl), ([] : List Wv)))]) = Ex at P9 R9
              clear hs9 hp9 hr9 HLb P6 P4 HO4 HO HR Hobx h8
              have hll : ((lb : Int) != (lb : Int)) = false := by simp
              obtain ⟨vT, PT⟩ : ∃ vT, Hid (PS W w9 b bx n lb L9 X9 lb vT Ex) := ⟨_, P9⟩
              clear P9
              have hvs := (PT.out.rf.now).1
              obtain ⟨va, vc, rfl⟩ := hvs.sl
              obtain ⟨N, hN⟩ : ∃ N, (entsX Ex).length = N := ⟨_, rfl⟩
              have hNL : L9.length = N := by rw [← hN, entsX_len, R9.out.eLen]
              have HNL := hide hNL
              rw [hN] at hvs PT
              try rw [hN]
              have HN := hide hN
              have HVs := hide hvs
              clear hN hNL hvs
              go_wp2_with fail
              refine (open_at w9 b n lb L9 X9 PT.out.tw.at_ (by have := R9.out.len; omega)).mono ?_
              rintro e w10 ⟨⟨oa, on, oc⟩, rfl, hio, hk10⟩
              obtain rfl : on = N := by rw [← HNL.out]; have := hio.1; rw [List.length_map] at this; exact this
              have HIo := hide hio.2
              have HK10 := hide hk10
              have d2 : w10.cell? ⟨bx, 2, none⟩ = some (.slice va on vc) := (hk10.blk PT.out.blk (fun h => h)).cell 2
              have hon8 : on ≤ 8 := by rw [← HNL.out]; exact R9.out.len
              have hnn : ((on : Int) != (on : Int)) = false := by simp
              have hee : ((0 : Int) != (0 : Int)) = false := by simp
              clear hio hk10
              go_wp2
              clear d2
              go_loopw [235] (fun i wq => ∃ j : Nat, i = .int .i64 j ∧ j ≤ on ∧ Hid (Kept (fun _ => False) w10 wq)) (fun i _ => on - (intOf i).toNat)
              case atStart => exact ⟨0, rfl, Nat.zero_le _, hide (Kept.refl _ _)⟩
              case round =>
                obtain ⟨j, rfl, hj, HKj⟩ := hrel
                by_cases hjt : j < on
                · have hjL : j < L9.length := by rw [HNL.out]; exact hjt
                  have hjE : j < (entsX Ex).length := by rw [HN.out]; exact hjt
                  obtain ⟨og, rfl, hcs⟩ := HIo.out (by rw [List.length_map]; omega)
                  obtain ⟨vg, vo, rfl, hcv⟩ := HVs.out.get hjE
                  have hEL : (entsX Ex)[j].1 = L9[j].1 := by
                    have h1 : ((entsX Ex).map (·.1))[j]? = (L9.map (·.1))[j]? := by
                      rw [← R9.out.rows]
                      unfold entsX rowsX mapK
                      rw [List.map_map, List.map_map]
                      rfl
                    rw [List.getElem?_map, List.getElem?_map, List.getElem?_eq_getElem hjE, List.getElem?_eq_getElem hjL] at h1
                    simpa using h1
                  obtain ⟨hj0, hh0⟩ : ∃ h, L9[j].1 = h := ⟨_, rfl⟩
                  have HCi : Hid (w10.cell? ⟨og, 0 + j, none⟩ = some (.int .i64 hj0)) := hide (by
                    have := hcs j (.int .i64 L9[j].1) (by rw [List.getElem?_map, List.getElem?_map, List.getElem?_eq_getElem hjL]; rfl)
                    rw [hh0] at this
                    exact this)
                  have HCx : Hid (w10.cell? ⟨vg, vo + j * 2, none⟩ = some (.int .i64 hj0)) := hide (by
                    have := (HK10.out.cells hcv (fun h => h)) 0 _ rfl
                    rw [hEL, hh0] at this
                    simpa using this)
                  clear hcs hcv hEL hh0 hjE hjL
                  go_wp2
                  refine hold_frame (p := fun fr => Code.wp Try.prog _ _ fr _) ?_
                  intro fr hfr
                  have e7 : fr.eval (.tmp 7) = .pointer (some ⟨bx, 0, none⟩) := by rw [hfr.out]; rfl
                  have e31 : fr.eval (.tmp 31) = .slice (some ⟨og, 0, none⟩) on oc := by rw [hfr.out]; rfl
                  have e32 : fr.eval (.tmp 32) = .int .i64 ((j : Nat) : Int) := by rw [hfr.out]; rfl
                  have hts : fr.tmps.size = 251 := by rw [hfr.out]; rfl
                  refine region_S0 99 Try.mixed ?_
                  intro w0 hkw hheap
                  have hP0 := (PT.out.same (HK10.out.trans (HKj.out.trans hkw (fun _ _ h => h)) (fun _ _ h => h)))
                  have hbx0 := hP0.blk
                  have hci := Kept.cell_ofP (HKj.out.trans hkw (fun _ _ h => h)) HCi.out
                  have hcx := Kept.cell_ofP (HKj.out.trans hkw (fun _ _ h => h)) HCx.out
                  have hS0 : Kept (fun _ => False) w0 w0 := Kept.refl (fun _ => False) w0
                  refine ⟨Kept (fun _ => False) w0, ?_⟩
                  refine tkS 0 238 (v := .slice (some ⟨og, 0, none⟩) on oc) hS0 rfl rfl (by kernel_rfl) (by kernel_rfl) (by kernel_rfl) (by kernel_rfl) (wanted_none rfl) (fun _ _ _ h => h) (fun U hU => r_move (by simp [eval_put_ne, eval_put_eq, size_put, hts, e31])) ?_
                  refine tkS 1 239 (v := .int .i64 ((j : Nat) : Int)) hS0 rfl rfl (by kernel_rfl) (by kernel_rfl) (by kernel_rfl) (by kernel_rfl) (wanted_none rfl) (fun _ _ _ h => h) (fun U hU => r_move (by simp [eval_put_ne, eval_put_eq, size_put, hts, e32])) ?_
                  refine tkS 2 240 (v := .pointer (some ⟨og, 0 + j, none⟩)) hS0 rfl rfl (by kernel_rfl) (by kernel_rfl) (by kernel_rfl) (by kernel_rfl) (wanted_none rfl) (fun _ _ _ h => h) (fun U hU => r_ixI (b := og) (off := 0) (len := on) (cap := oc) (kk := .i64) j (by simp [eval_put_ne, eval_put_eq, size_put, hts]) (by simp [eval_put_ne, eval_put_eq, size_put, hts]) hjt) ?_
                  refine tkS 3 241 (v := .int .i64 hj0) hS0 rfl rfl (by kernel_rfl) (by kernel_rfl) (by kernel_rfl) (by kernel_rfl) (wanted_none rfl) (fun _ _ _ h => h) (fun U hU => r_ldI (by simp [eval_put_ne, eval_put_eq, size_put, hts]) (hU.cell_ofP hci)) ?_
                  refine tkS 4 242 (v := .pointer (some ⟨bx, 2, none⟩)) hS0 rfl rfl (by kernel_rfl) (by kernel_rfl) (by kernel_rfl) (by kernel_rfl) (wanted_none rfl) (fun _ _ _ h => h) (fun U hU => r_fK2 (by simp [eval_put_ne, eval_put_eq, size_put, hts, e7])) ?_
                  refine tkS 5 243 (v := .slice (some ⟨vg, vo, none⟩) on vc) hS0 rfl rfl (by kernel_rfl) (by kernel_rfl) (by kernel_rfl) (by kernel_rfl) (wanted_none rfl) (fun _ _ _ h => h) (fun U hU => r_ldTS (by simp [eval_put_ne, eval_put_eq, size_put, hts]) ((hU.blk hbx0 (fun h => h)).cell 2)) ?_
                  refine tkS 6 244 (v := .int .i64 ((j : Nat) : Int)) hS0 rfl rfl (by kernel_rfl) (by kernel_rfl) (by kernel_rfl) (by kernel_rfl) (wanted_none rfl) (fun _ _ _ h => h) (fun U hU => r_move (by simp [eval_put_ne, eval_put_eq, size_put, hts, e32])) ?_
                  refine tkS 7 245 (v := .pointer (some ⟨vg, vo + j * 2, none⟩)) hS0 rfl rfl (by kernel_rfl) (by kernel_rfl) (by kernel_rfl) (by kernel_rfl) (wanted_none rfl) (fun _ _ _ h => h) (fun U hU => r_ixT (b := vg) (off := vo) (len := on) (cap := vc) (kk := .i64) j (by simp [eval_put_ne, eval_put_eq, size_put, hts]) (by simp [eval_put_ne, eval_put_eq, size_put, hts]) hjt) ?_
                  refine tkS 8 246 (v := .pointer (some ⟨vg, vo + j * 2, none⟩)) hS0 rfl rfl (by kernel_rfl) (by kernel_rfl) (by kernel_rfl) (by kernel_rfl) (wanted_none rfl) (fun _ _ _ h => h) (fun U hU => r_fX0 (by simp [eval_put_ne, eval_put_eq, size_put, hts])) ?_
                  refine tkS 9 247 (v := .int .i64 hj0) hS0 rfl rfl (by kernel_rfl) (by kernel_rfl) (by kernel_rfl) (by kernel_rfl) (wanted_none rfl) (fun _ _ _ h => h) (fun U hU => r_ldI (by simp [eval_put_ne, eval_put_eq, size_put, hts]) (hU.cell_ofP hcx)) ?_
                  refine tkS 10 248 (v := .bool false) hS0 rfl rfl (by kernel_rfl) (by kernel_rfl) (by kernel_rfl) (by kernel_rfl) (wanted_none rfl) (fun _ _ _ h => h) (fun U hU => (r_neqI (p := hj0) (q := hj0) (by simp [eval_put_ne, eval_put_eq, size_put, hts]) (by simp [eval_put_ne, eval_put_eq, size_put, hts])).trans (by simp)) ?_
                  refine doneS (by kernel_rfl) ?_
                  have HKj8 := hide (HKj.out.trans hkw (fun _ _ h => h))
                  clear hP0 hbx0 hci hcx hS0 hkw hheap
                  rw [hfr.out]
                  clear hfr e7 e31 e32 hts
                  simp only [put_lit, put_none, List.set_cons_succ, List.set_cons_zero]
                  go_wp2
                  go_roundw
                  case rel => exact ⟨j + 1, by simp, by omega, HKj8⟩
                  case measure => simp [intOf]; omega
                · obtain rfl : on = j := by omega
                  have hP := hide (PT.out.same (HK10.out.trans HKj.out (fun _ _ h => h)))
                  go_wp2
                  go_roundw
                  case rel => exact ⟨k + 1, lb, L9, X9, _, Ex, by simp, by omega, by omega, hP, R9⟩
                  case measure => simp [intOf]; omega
            · skip
              go_wp2_with (first | (with_reducible refine stop_load 30 ?_) | fail)
              refine hide ?_
              refine aw_load (M := [.int .i64 n, .int .i64 la, v]) Try.agg30 rfl P4.out.blk (by simp) rfl ?_
              try simp only [put_lit, put_none, List.set_cons_succ, List.set_cons_zero]
              obtain ⟨qa, qc, hq5⟩ := (P4.out.rf.now).1.sl
              obtain ⟨qn, hqn⟩ : ∃ qn, (entsX E).length = qn := ⟨_, rfl⟩
              rw [hqn] at hq5
              have hE8 : 8 ≤ (entsX E).length := by rw [entsX_len, HR.out.eLen]; omega
              subst hq5
              have hbn := rbegin_no w4 n la (.slice qa qn qc) (entsX E) (P4.out.rf.now).1 hE8
              clear hqn hE8
              go_wp2_with fail
              refine hbn.mono ?_
              rintro e w5 ⟨rfl, hk5⟩
              have P5 := hide (P4.out.same hk5)
              clear hk5 hbn
              go_wp2_with (first
                | ((with_reducible refine aw_alloc (t := 30) (dst := some 16) Hi0.out Hz0.out ?_); intro w7 hw7 hk7 hz7; have HW7 := hide hw7; have HK7 := hide hk7; clear hw7 hk7 hz7)
                | ((with_reducible refine aw_store (x := .tmp 16) (M := [.int .i64 n, .int .i64 la, .slice qa qn qc]) Try.agg30 rfl rfl rfl (by simp [Value.oneCell']) HW7.out (by simp [Value.cells]) ?_); intro w8 hw8 hk8 hz8; rw [put_whole _ _ (by simp [Value.cells])] at hw8; have HW8 := hide hw8; have HK8 := hide (HK7.out.trans hk8 (S := fun _ => False) (fun i hi h => by omega)); clear hw8 hk8 hz8)
                | ((with_reducible refine aw_load (M := [.int .i64 n, .int .i64 la, .slice qa qn qc]) Try.agg30 rfl HW8.out (by simp) rfl ?_))
                | (with_reducible refine stop_store (x := .tmp 7) 30 ?_)
                | fail)
              refine hide ?_
              have P8 := hide (P5.out.same HK8.out)
              refine aw_store (M := [.int .i64 n, .int .i64 la, .slice qa qn qc]) Try.agg30 rfl rfl rfl (by simp [Value.oneCell']) P8.out.blk (by simp) ?_
              intro w6 hw6 hk6 hz6
              rw [put_whole _ _ (by simp)] at hw6
              have P6 := hide (P8.out.store P8.out.rf hw6 hk6)
              clear hw6 hk6 hz6 P5 P8 HW7 HW8 HK7 HK8
              try simp only [put_lit, put_none, List.set_cons_succ, List.set_cons_zero]
              go_wp2_with fail
              refine (begin_no w6 b n la L X P6.out.tw.at_ (by omega)).mono ?_
              rintro e w9 ⟨rfl, rfl⟩
              have P9 := P6
              have R9 := hide HR.out.next
              clear P6 P4 HO4 HO HR Hobx h8
              obtain ⟨vT, PT⟩ : ∃ vT, Hid (PS W w6 b bx n la L X la vT E) := ⟨_, P9⟩
              clear P9
              have hvs := (PT.out.rf.now).1
              obtain ⟨va, vc, rfl⟩ := hvs.sl
              obtain ⟨N, hN⟩ : ∃ N, (entsX E).length = N := ⟨_, rfl⟩
              have hNL : L.length = N := by rw [← hN, entsX_len, R9.out.eLen]
              have HNL := hide hNL
              rw [hN] at hvs PT
              try rw [hN]
              have HN := hide hN
              have HVs := hide hvs
              clear hN hNL hvs
              go_wp2_with fail
              refine (open_at w6 b n la L X PT.out.tw.at_ (by have := R9.out.len; omega)).mono ?_
              rintro e w10 ⟨⟨oa, on, oc⟩, rfl, hio, hk10⟩
              obtain rfl : on = N := by rw [← HNL.out]; have := hio.1; rw [List.length_map] at this; exact this
              have HIo := hide hio.2
              have HK10 := hide hk10
              have d2 : w10.cell? ⟨bx, 2, none⟩ = some (.slice va on vc) := (hk10.blk PT.out.blk (fun h => h)).cell 2
              have hon8 : on ≤ 8 := by rw [← HNL.out]; exact R9.out.len
              have hnn : ((on : Int) != (on : Int)) = false := by simp
              have hee : ((32 : Int) != (32 : Int)) = false := by simp
              clear hio hk10
              go_wp2
              clear d2
              go_loopw [235] (fun i wq => ∃ j : Nat, i = .int .i64 j ∧ j ≤ on ∧ Hid (Kept (fun _ => False) w10 wq)) (fun i _ => on - (intOf i).toNat)
              case atStart => exact ⟨0, rfl, Nat.zero_le _, hide (Kept.refl _ _)⟩
              case round =>
                obtain ⟨j, rfl, hj, HKj⟩ := hrel
                by_cases hjt : j < on
                · have hjL : j < L.length := by rw [HNL.out]; exact hjt
                  have hjE : j < (entsX E).length := by rw [HN.out]; exact hjt
                  obtain ⟨og, rfl, hcs⟩ := HIo.out (by rw [List.length_map]; omega)
                  obtain ⟨vg, vo, rfl, hcv⟩ := HVs.out.get hjE
                  have hEL : (entsX E)[j].1 = L[j].1 := by
                    have h1 : ((entsX E).map (·.1))[j]? = (L.map (·.1))[j]? := by
                      rw [← R9.out.rows]
                      unfold entsX rowsX mapK
                      rw [List.map_map, List.map_map]
                      rfl
                    rw [List.getElem?_map, List.getElem?_map, List.getElem?_eq_getElem hjE, List.getElem?_eq_getElem hjL] at h1
                    simpa using h1
                  obtain ⟨hj0, hh0⟩ : ∃ h, L[j].1 = h := ⟨_, rfl⟩
                  have HCi : Hid (w10.cell? ⟨og, 0 + j, none⟩ = some (.int .i64 hj0)) := hide (by
                    have := hcs j (.int .i64 L[j].1) (by rw [List.getElem?_map, List.getElem?_map, List.getElem?_eq_getElem hjL]; rfl)
                    rw [hh0] at this
                    exact this)
                  have HCx : Hid (w10.cell? ⟨vg, vo + j * 2, none⟩ = some (.int .i64 hj0)) := hide (by
                    have := (HK10.out.cells hcv (fun h => h)) 0 _ rfl
                    rw [hEL, hh0] at this
                    simpa using this)
                  clear hcs hcv hEL hh0 hjE hjL
                  go_wp2
                  refine hold_frame (p := fun fr => Code.wp Try.prog _ _ fr _) ?_
                  intro fr hfr
                  have e7 : fr.eval (.tmp 7) = .pointer (some ⟨bx, 0, none⟩) := by rw [hfr.out]; rfl
                  have e31 : fr.eval (.tmp 31) = .slice (some ⟨og, 0, none⟩) on oc := by rw [hfr.out]; rfl
                  have e32 : fr.eval (.tmp 32) = .int .i64 ((j : Nat) : Int) := by rw [hfr.out]; rfl
                  have hts : fr.tmps.size = 251 := by rw [hfr.out]; rfl
                  refine region_S0 99 Try.mixed ?_
                  intro w0 hkw hheap
                  have hP0 := (PT.out.same (HK10.out.trans (HKj.out.trans hkw (fun _ _ h => h)) (fun _ _ h => h)))
                  have hbx0 := hP0.blk
                  have hci := Kept.cell_ofP (HKj.out.trans hkw (fun _ _ h => h)) HCi.out
                  have hcx := Kept.cell_ofP (HKj.out.trans hkw (fun _ _ h => h)) HCx.out
                  have hS0 : Kept (fun _ => False) w0 w0 := Kept.refl (fun _ => False) w0
                  refine ⟨Kept (fun _ => False) w0, ?_⟩
                  refine tkS 0 238 (v := .slice (some ⟨og, 0, none⟩) on oc) hS0 rfl rfl (by kernel_rfl) (by kernel_rfl) (by kernel_rfl) (by kernel_rfl) (wanted_none rfl) (fun _ _ _ h => h) (fun U hU => r_move (by simp [eval_put_ne, eval_put_eq, size_put, hts, e31])) ?_
                  refine tkS 1 239 (v := .int .i64 ((j : Nat) : Int)) hS0 rfl rfl (by kernel_rfl) (by kernel_rfl) (by kernel_rfl) (by kernel_rfl) (wanted_none rfl) (fun _ _ _ h => h) (fun U hU => r_move (by simp [eval_put_ne, eval_put_eq, size_put, hts, e32])) ?_
                  refine tkS 2 240 (v := .pointer (some ⟨og, 0 + j, none⟩)) hS0 rfl rfl (by kernel_rfl) (by kernel_rfl) (by kernel_rfl) (by kernel_rfl) (wanted_none rfl) (fun _ _ _ h => h) (fun U hU => r_ixI (b := og) (off := 0) (len := on) (cap := oc) (kk := .i64) j (by simp [eval_put_ne, eval_put_eq, size_put, hts]) (by simp [eval_put_ne, eval_put_eq, size_put, hts]) hjt) ?_
                  refine tkS 3 241 (v := .int .i64 hj0) hS0 rfl rfl (by kernel_rfl) (by kernel_rfl) (by kernel_rfl) (by kernel_rfl) (wanted_none rfl) (fun _ _ _ h => h) (fun U hU => r_ldI (by simp [eval_put_ne, eval_put_eq, size_put, hts]) (hU.cell_ofP hci)) ?_
                  refine tkS 4 242 (v := .pointer (some ⟨bx, 2, none⟩)) hS0 rfl rfl (by kernel_rfl) (by kernel_rfl) (by kernel_rfl) (by kernel_rfl) (wanted_none rfl) (fun _ _ _ h => h) (fun U hU => r_fK2 (by simp [eval_put_ne, eval_put_eq, size_put, hts, e7])) ?_
                  refine tkS 5 243 (v := .slice (some ⟨vg, vo, none⟩) on vc) hS0 rfl rfl (by kernel_rfl) (by kernel_rfl) (by kernel_rfl) (by kernel_rfl) (wanted_none rfl) (fun _ _ _ h => h) (fun U hU => r_ldTS (by simp [eval_put_ne, eval_put_eq, size_put, hts]) ((hU.blk hbx0 (fun h => h)).cell 2)) ?_
                  refine tkS 6 244 (v := .int .i64 ((j : Nat) : Int)) hS0 rfl rfl (by kernel_rfl) (by kernel_rfl) (by kernel_rfl) (by kernel_rfl) (wanted_none rfl) (fun _ _ _ h => h) (fun U hU => r_move (by simp [eval_put_ne, eval_put_eq, size_put, hts, e32])) ?_
                  refine tkS 7 245 (v := .pointer (some ⟨vg, vo + j * 2, none⟩)) hS0 rfl rfl (by kernel_rfl) (by kernel_rfl) (by kernel_rfl) (by kernel_rfl) (wanted_none rfl) (fun _ _ _ h => h) (fun U hU => r_ixT (b := vg) (off := vo) (len := on) (cap := vc) (kk := .i64) j (by simp [eval_put_ne, eval_put_eq, size_put, hts]) (by simp [eval_put_ne, eval_put_eq, size_put, hts]) hjt) ?_
                  refine tkS 8 246 (v := .pointer (some ⟨vg, vo + j * 2, none⟩)) hS0 rfl rfl (by kernel_rfl) (by kernel_rfl) (by kernel_rfl) (by kernel_rfl) (wanted_none rfl) (fun _ _ _ h => h) (fun U hU => r_fX0 (by simp [eval_put_ne, eval_put_eq, size_put, hts])) ?_
                  refine tkS 9 247 (v := .int .i64 hj0) hS0 rfl rfl (by kernel_rfl) (by kernel_rfl) (by kernel_rfl) (by kernel_rfl) (wanted_none rfl) (fun _ _ _ h => h) (fun U hU => r_ldI (by simp [eval_put_ne, eval_put_eq, size_put, hts]) (hU.cell_ofP hcx)) ?_
                  refine tkS 10 248 (v := .bool false) hS0 rfl rfl (by kernel_rfl) (by kernel_rfl) (by kernel_rfl) (by kernel_rfl) (wanted_none rfl) (fun _ _ _ h => h) (fun U hU => (r_neqI (p := hj0) (q := hj0) (by simp [eval_put_ne, eval_put_eq, size_put, hts]) (by simp [eval_put_ne, eval_put_eq, size_put, hts])).trans (by simp)) ?_
                  refine doneS (by kernel_rfl) ?_
                  have HKj8 := hide (HKj.out.trans hkw (fun _ _ h => h))
                  clear hP0 hbx0 hci hcx hS0 hkw hheap
                  rw [hfr.out]
                  clear hfr e7 e31 e32 hts
                  simp only [put_lit, put_none, List.set_cons_succ, List.set_cons_zero]
                  go_wp2
                  go_roundw
                  case rel => exact ⟨j + 1, by simp, by omega, HKj8⟩
                  case measure => simp [intOf]; omega
                · obtain rfl : on = j := by omega
                  have hP := hide (PT.out.same (HK10.out.trans HKj.out (fun _ _ h => h)))
                  go_wp2
                  go_roundw
                  case rel => exact ⟨k + 1, la, L, X, _, E, by simp, by omega, by omega, hP, R9⟩
                  case measure => simp [intOf]; omega
          · as_aux_lemma =>
            have e1 : w4.cell? ⟨ob, 1, none⟩ = some (.int .i64 hh) := HO4.out.cell 1
            have e2 : w4.cell? ⟨ob, 2, none⟩ = some (.int .i64 kk) := HO4.out.cell 2
            have e3 : w4.cell? ⟨ob, 3, none⟩ = some (.slice sa B.length sc) := HO4.out.cell 3
            go_wp2_with (first | (with_reducible refine stop_load 30 ?_) | fail)
            refine hide ?_
            refine aw_load (M := [.int .i64 n, .int .i64 la, v]) Try.agg30 rfl P4.out.blk (by simp) rfl ?_
            try simp only [put_lit, put_none, List.set_cons_succ, List.set_cons_zero]
            go_wp2_with fail
            refine (rwrite_at w4 n la v E _ P4.out.rf P4.out.lt HR.out.eSrt (by rw [HR.out.eLen]; have := HR.out.len; omega) (fun t => cur_len HR.out (by omega) t) hh kk ⟨sa, B.length, sc⟩ B (fun w2 hk2 => (HO.out.kept (P4.out.tw.kept.trans hk2 (fun j hj hy => by
              rcases hy with hy | hy
              · have := P4.out.tw.new j hy; omega
              · subst hy; have := P4.out.ge; omega))).src)).mono ?_
            rintro e w5 ⟨v5, E5, rfl, hr5, hk5, hcase⟩
            rw [HR.out.rows] at hcase ⊢
            obtain ⟨E9, hE9⟩ : ∃ E9, txWE n L hh kk B.length = E9 := ⟨_, rfl⟩
            rw [hE9] at hcase ⊢
            have HE9 := hide hE9
            have HCase := hide hcase
            have P5 := hide (P4.out.same hk5)
            have HO5 := hide (hk5.blk HO4.out (fun h => h))
            have HR5 := hide hr5
            clear hk5 hr5 hcase hE9 e1 e2 e3
            go_wp2_with (first | (with_reducible refine stop_store 30 ?_) | fail)
            refine hide ?_
            have one6 : ∀ u ∈ [.int .i64 n, .int .i64 la, v5], u.oneCell' = true := by
              obtain ⟨qa, qc, hq⟩ := (HR5.out.now).1.sl
              subst hq
              simp [Value.oneCell']
            refine aw_store (M := [.int .i64 n, .int .i64 la, v5]) Try.agg30 rfl rfl rfl one6 P5.out.blk (by simp) ?_
            intro w6 hw6 hk6 hz6
            rw [put_whole _ _ (by simp)] at hw6
            have P6 := hide (P5.out.store HR5.out hw6 hk6)
            have HO6 := hide (hk6.blk HO5.out (fun e => Hobx.out e))
            clear hw6 hk6 hz6 one6
            try simp only [put_lit, put_none, List.set_cons_succ, List.set_cons_zero]
            have e1 : w6.cell? ⟨ob, 1, none⟩ = some (.int .i64 hh) := HO6.out.cell 1
            have e2 : w6.cell? ⟨ob, 2, none⟩ = some (.int .i64 kk) := HO6.out.cell 2
            have e3 : w6.cell? ⟨ob, 3, none⟩ = some (.slice sa B.length sc) := HO6.out.cell 3
            go_wp2_with fail
            refine (write_at w6 b n la L X P6.out.tw.at_ (by have := HR.out.len; omega) k (by omega) HR.out.ok hh kk ⟨sa, B.length, sc⟩ B (HO.out.kept P6.out.tw.kept).src).mono ?_
            rintro e w9 ⟨he, hs9⟩
            rw [HE9.out] at he hs9
            subst he
            obtain ⟨L9, hL9, R9⟩ : ∃ L9, (if E9 = 0 then txW L hh kk B else L) = L9 ∧ Hid (PR n la L9 E5 (k + 1)) := by
              rcases HCase.out with ⟨hne, rfl⟩ | ⟨h0, h1, h2, s5, ws5, rfl, hw5⟩
              · exact ⟨L, by rw [if_neg hne], hide HR.out.next⟩
              · exact ⟨_, by rw [if_pos h0], hide (HR.out.write h1 h2 hw5)⟩
            rw [hL9] at hs9
            obtain ⟨X9, hp9, _⟩ := P6.out.prog hs9
            have P9 := hide hp9
            clear hs9 hp9 hL9 HCase HE9 P6 P5 P4 HO4 HO5 HO6 HO HR5 HR Hobx e1 e2 e3
            obtain ⟨vT, PT⟩ : ∃ vT, Hid (PS W w9 b bx n la L9 X9 la vT E5) := ⟨_, P9⟩
            clear P9
            have hvs := (PT.out.rf.now).1
            obtain ⟨va, vc, rfl⟩ := hvs.sl
            obtain ⟨N, hN⟩ : ∃ N, (entsX E5).length = N := ⟨_, rfl⟩
            have hNL : L9.length = N := by rw [← hN, entsX_len, R9.out.eLen]
            have HNL := hide hNL
            rw [hN] at hvs PT
            try rw [hN]
            have HN := hide hN
            have HVs := hide hvs
            clear hN hNL hvs
            go_wp2_with fail
            refine (open_at w9 b n la L9 X9 PT.out.tw.at_ (by have := R9.out.len; omega)).mono ?_
            rintro e w10 ⟨⟨oa, on, oc⟩, rfl, hio, hk10⟩
            obtain rfl : on = N := by rw [← HNL.out]; have := hio.1; rw [List.length_map] at this; exact this
            have HIo := hide hio.2
            have HK10 := hide hk10
            have d2 : w10.cell? ⟨bx, 2, none⟩ = some (.slice va on vc) := (hk10.blk PT.out.blk (fun h => h)).cell 2
            have hon8 : on ≤ 8 := by rw [← HNL.out]; exact R9.out.len
            have hnn : ((on : Int) != (on : Int)) = false := by simp
            have hee : ((E9 : Int) != (E9 : Int)) = false := by simp
            clear hio hk10
            go_wp2
            clear d2
            go_loopw [235] (fun i wq => ∃ j : Nat, i = .int .i64 j ∧ j ≤ on ∧ Hid (Kept (fun _ => False) w10 wq)) (fun i _ => on - (intOf i).toNat)
            case atStart => exact ⟨0, rfl, Nat.zero_le _, hide (Kept.refl _ _)⟩
            case round =>
              obtain ⟨j, rfl, hj, HKj⟩ := hrel
              by_cases hjt : j < on
              · have hjL : j < L9.length := by rw [HNL.out]; exact hjt
                have hjE : j < (entsX E5).length := by rw [HN.out]; exact hjt
                obtain ⟨og, rfl, hcs⟩ := HIo.out (by rw [List.length_map]; omega)
                obtain ⟨vg, vo, rfl, hcv⟩ := HVs.out.get hjE
                have hEL : (entsX E5)[j].1 = L9[j].1 := by
                  have h1 : ((entsX E5).map (·.1))[j]? = (L9.map (·.1))[j]? := by
                    rw [← R9.out.rows]
                    unfold entsX rowsX mapK
                    rw [List.map_map, List.map_map]
                    rfl
                  rw [List.getElem?_map, List.getElem?_map, List.getElem?_eq_getElem hjE, List.getElem?_eq_getElem hjL] at h1
                  simpa using h1
                obtain ⟨hj0, hh0⟩ : ∃ h, L9[j].1 = h := ⟨_, rfl⟩
                have HCi : Hid (w10.cell? ⟨og, 0 + j, none⟩ = some (.int .i64 hj0)) := hide (by
                  have := hcs j (.int .i64 L9[j].1) (by rw [List.getElem?_map, List.getElem?_map, List.getElem?_eq_getElem hjL]; rfl)
                  rw [hh0] at this
                  exact this)
                have HCx : Hid (w10.cell? ⟨vg, vo + j * 2, none⟩ = some (.int .i64 hj0)) := hide (by
                  have := (HK10.out.cells hcv (fun h => h)) 0 _ rfl
                  rw [hEL, hh0] at this
                  simpa using this)
                clear hcs hcv hEL hh0 hjE hjL
                go_wp2
                refine hold_frame (p := fun fr => Code.wp Try.prog _ _ fr _) ?_
                intro fr hfr
                have e7 : fr.eval (.tmp 7) = .pointer (some ⟨bx, 0, none⟩) := by rw [hfr.out]; rfl
                have e31 : fr.eval (.tmp 31) = .slice (some ⟨og, 0, none⟩) on oc := by rw [hfr.out]; rfl
                have e32 : fr.eval (.tmp 32) = .int .i64 ((j : Nat) : Int) := by rw [hfr.out]; rfl
                have hts : fr.tmps.size = 251 := by rw [hfr.out]; rfl
                refine region_S0 99 Try.mixed ?_
                intro w0 hkw hheap
                have hP0 := (PT.out.same (HK10.out.trans (HKj.out.trans hkw (fun _ _ h => h)) (fun _ _ h => h)))
                have hbx0 := hP0.blk
                have hci := Kept.cell_ofP (HKj.out.trans hkw (fun _ _ h => h)) HCi.out
                have hcx := Kept.cell_ofP (HKj.out.trans hkw (fun _ _ h => h)) HCx.out
                have hS0 : Kept (fun _ => False) w0 w0 := Kept.refl (fun _ => False) w0
                refine ⟨Kept (fun _ => False) w0, ?_⟩
                refine tkS 0 238 (v := .slice (some ⟨og, 0, none⟩) on oc) hS0 rfl rfl (by kernel_rfl) (by kernel_rfl) (by kernel_rfl) (by kernel_rfl) (wanted_none rfl) (fun _ _ _ h => h) (fun U hU => r_move (by simp [eval_put_ne, eval_put_eq, size_put, hts, e31])) ?_
                refine tkS 1 239 (v := .int .i64 ((j : Nat) : Int)) hS0 rfl rfl (by kernel_rfl) (by kernel_rfl) (by kernel_rfl) (by kernel_rfl) (wanted_none rfl) (fun _ _ _ h => h) (fun U hU => r_move (by simp [eval_put_ne, eval_put_eq, size_put, hts, e32])) ?_
                refine tkS 2 240 (v := .pointer (some ⟨og, 0 + j, none⟩)) hS0 rfl rfl (by kernel_rfl) (by kernel_rfl) (by kernel_rfl) (by kernel_rfl) (wanted_none rfl) (fun _ _ _ h => h) (fun U hU => r_ixI (b := og) (off := 0) (len := on) (cap := oc) (kk := .i64) j (by simp [eval_put_ne, eval_put_eq, size_put, hts]) (by simp [eval_put_ne, eval_put_eq, size_put, hts]) hjt) ?_
                refine tkS 3 241 (v := .int .i64 hj0) hS0 rfl rfl (by kernel_rfl) (by kernel_rfl) (by kernel_rfl) (by kernel_rfl) (wanted_none rfl) (fun _ _ _ h => h) (fun U hU => r_ldI (by simp [eval_put_ne, eval_put_eq, size_put, hts]) (hU.cell_ofP hci)) ?_
                refine tkS 4 242 (v := .pointer (some ⟨bx, 2, none⟩)) hS0 rfl rfl (by kernel_rfl) (by kernel_rfl) (by kernel_rfl) (by kernel_rfl) (wanted_none rfl) (fun _ _ _ h => h) (fun U hU => r_fK2 (by simp [eval_put_ne, eval_put_eq, size_put, hts, e7])) ?_
                refine tkS 5 243 (v := .slice (some ⟨vg, vo, none⟩) on vc) hS0 rfl rfl (by kernel_rfl) (by kernel_rfl) (by kernel_rfl) (by kernel_rfl) (wanted_none rfl) (fun _ _ _ h => h) (fun U hU => r_ldTS (by simp [eval_put_ne, eval_put_eq, size_put, hts]) ((hU.blk hbx0 (fun h => h)).cell 2)) ?_
                refine tkS 6 244 (v := .int .i64 ((j : Nat) : Int)) hS0 rfl rfl (by kernel_rfl) (by kernel_rfl) (by kernel_rfl) (by kernel_rfl) (wanted_none rfl) (fun _ _ _ h => h) (fun U hU => r_move (by simp [eval_put_ne, eval_put_eq, size_put, hts, e32])) ?_
                refine tkS 7 245 (v := .pointer (some ⟨vg, vo + j * 2, none⟩)) hS0 rfl rfl (by kernel_rfl) (by kernel_rfl) (by kernel_rfl) (by kernel_rfl) (wanted_none rfl) (fun _ _ _ h => h) (fun U hU => r_ixT (b := vg) (off := vo) (len := on) (cap := vc) (kk := .i64) j (by simp [eval_put_ne, eval_put_eq, size_put, hts]) (by simp [eval_put_ne, eval_put_eq, size_put, hts]) hjt) ?_
                refine tkS 8 246 (v := .pointer (some ⟨vg, vo + j * 2, none⟩)) hS0 rfl rfl (by kernel_rfl) (by kernel_rfl) (by kernel_rfl) (by kernel_rfl) (wanted_none rfl) (fun _ _ _ h => h) (fun U hU => r_fX0 (by simp [eval_put_ne, eval_put_eq, size_put, hts])) ?_
                refine tkS 9 247 (v := .int .i64 hj0) hS0 rfl rfl (by kernel_rfl) (by kernel_rfl) (by kernel_rfl) (by kernel_rfl) (wanted_none rfl) (fun _ _ _ h => h) (fun U hU => r_ldI (by simp [eval_put_ne, eval_put_eq, size_put, hts]) (hU.cell_ofP hcx)) ?_
                refine tkS 10 248 (v := .bool false) hS0 rfl rfl (by kernel_rfl) (by kernel_rfl) (by kernel_rfl) (by kernel_rfl) (wanted_none rfl) (fun _ _ _ h => h) (fun U hU => (r_neqI (p := hj0) (q := hj0) (by simp [eval_put_ne, eval_put_eq, size_put, hts]) (by simp [eval_put_ne, eval_put_eq, size_put, hts])).trans (by simp)) ?_
                refine doneS (by kernel_rfl) ?_
                have HKj8 := hide (HKj.out.trans hkw (fun _ _ h => h))
                clear hP0 hbx0 hci hcx hS0 hkw hheap
                rw [hfr.out]
                clear hfr e7 e31 e32 hts
                simp only [put_lit, put_none, List.set_cons_succ, List.set_cons_zero]
                go_wp2
                go_roundw
                case rel => exact ⟨j + 1, by simp, by omega, HKj8⟩
                case measure => simp [intOf]; omega
              · obtain rfl : on = j := by omega
                have hP := hide (PT.out.same (HK10.out.trans HKj.out (fun _ _ h => h)))
                go_wp2
                go_roundw
                case rel => exact ⟨k + 1, la, L9, X9, _, E5, by simp, by omega, by omega, hP, R9⟩
                case measure => simp [intOf]; omega
          · as_aux_lemma =>
            by_cases hte : txErr n L hh kk = 0
            · skip
              obtain ⟨fd, hfd⟩ : ∃ fd, findW (valK ltI [] L hh) kk = fd := ⟨_, rfl⟩
              obtain ⟨BB, hBB⟩ : ∃ BB, bytesOf fd = BB := ⟨_, rfl⟩
              obtain ⟨bb, hbb⟩ : ∃ bb, fd.isSome = bb := ⟨_, rfl⟩
              have HBB := hide hBB
              have e1 : w4.cell? ⟨ob, 1, none⟩ = some (.int .i64 hh) := HO4.out.cell 1
              have e2 : w4.cell? ⟨ob, 2, none⟩ = some (.int .i64 kk) := HO4.out.cell 2
              go_wp2_with (first | (with_reducible refine stop_load 30 ?_) | fail)
              refine hide ?_
              refine aw_load (M := [.int .i64 n, .int .i64 la, v]) Try.agg30 rfl P4.out.blk (by simp) rfl ?_
              try simp only [put_lit, put_none, List.set_cons_succ, List.set_cons_zero]
              go_wp2_with fail
              refine (rread_ok w4 n la v E (P4.out.rf.now) HR.out.eSrt (by rw [HR.out.eLen]; have := HR.out.len; omega) hh kk (by rw [HR.out.rows]; exact hte) fd (by rw [HR.out.rows]; exact hfd)).mono ?_
              rintro e w5 ⟨rfl, hk5⟩
              rw [hBB, hbb]
              have P5 := hide (P4.out.same hk5)
              have HO5 := hide (hk5.blk HO4.out (fun h => h))
              clear hk5 e1 e2
              have e1 : w5.cell? ⟨ob, 1, none⟩ = some (.int .i64 hh) := HO5.out.cell 1
              have e2 : w5.cell? ⟨ob, 2, none⟩ = some (.int .i64 kk) := HO5.out.cell 2
              go_wp2_with fail
              refine (read_ok w5 b n la L X P5.out.tw.at_ (by have := HR.out.len; omega) k (by omega) HR.out.ok hh kk hte).mono ?_
              rintro e w9 ⟨⟨ya, yn, yc⟩, rfl, hy9, hk9⟩
              rw [hfd] at hy9 ⊢
              have HY : Hid (Src w9 (.slice ya yn yc) BB) := hide (by rw [← HBB.out]; exact hy9)
              rw [hbb]
              have P9 := hide (P5.out.same hk9)
              have R9 := hide HR.out.next
              clear hk9 P5 P4 HO4 HO5 HO e1 e2
              go_wp2_with (first
                | (with_reducible refine stop_convert 40 9 ?_)
                | fail)
              refine hide ?_
              refine wpList_run rfl (r_strS rfl HY.out) ?_
              have hbq : (bb != bb) = false := by simp
              try simp only [put_lit, put_none, List.set_cons_succ, List.set_cons_zero]
              clear HR Hobx HY
              obtain ⟨vT, PT⟩ : ∃ vT, Hid (PS W w9 b bx n la L X la vT E) := ⟨_, P9⟩
              clear P9
              have hvs := (PT.out.rf.now).1
              obtain ⟨va, vc, rfl⟩ := hvs.sl
              obtain ⟨N, hN⟩ : ∃ N, (entsX E).length = N := ⟨_, rfl⟩
              have hNL : L.length = N := by rw [← hN, entsX_len, R9.out.eLen]
              have HNL := hide hNL
              rw [hN] at hvs PT
              try rw [hN]
              have HN := hide hN
              have HVs := hide hvs
              clear hN hNL hvs
              go_wp2_with fail
              refine (open_at w9 b n la L X PT.out.tw.at_ (by have := R9.out.len; omega)).mono ?_
              rintro e w10 ⟨⟨oa, on, oc⟩, rfl, hio, hk10⟩
              obtain rfl : on = N := by rw [← HNL.out]; have := hio.1; rw [List.length_map] at this; exact this
              have HIo := hide hio.2
              have HK10 := hide hk10
              have d2 : w10.cell? ⟨bx, 2, none⟩ = some (.slice va on vc) := (hk10.blk PT.out.blk (fun h => h)).cell 2
              have hon8 : on ≤ 8 := by rw [← HNL.out]; exact R9.out.len
              have hnn : ((on : Int) != (on : Int)) = false := by simp
              have hee : ((0 : Int) != (0 : Int)) = false := by simp
              clear hio hk10
              go_wp2
              clear d2
              go_loopw [235] (fun i wq => ∃ j : Nat, i = .int .i64 j ∧ j ≤ on ∧ Hid (Kept (fun _ => False) w10 wq)) (fun i _ => on - (intOf i).toNat)
              case atStart => exact ⟨0, rfl, Nat.zero_le _, hide (Kept.refl _ _)⟩
              case round =>
                obtain ⟨j, rfl, hj, HKj⟩ := hrel
                by_cases hjt : j < on
                · have hjL : j < L.length := by rw [HNL.out]; exact hjt
                  have hjE : j < (entsX E).length := by rw [HN.out]; exact hjt
                  obtain ⟨og, rfl, hcs⟩ := HIo.out (by rw [List.length_map]; omega)
                  obtain ⟨vg, vo, rfl, hcv⟩ := HVs.out.get hjE
                  have hEL : (entsX E)[j].1 = L[j].1 := by
                    have h1 : ((entsX E).map (·.1))[j]? = (L.map (·.1))[j]? := by
                      rw [← R9.out.rows]
                      unfold entsX rowsX mapK
                      rw [List.map_map, List.map_map]
                      rfl
                    rw [List.getElem?_map, List.getElem?_map, List.getElem?_eq_getElem hjE, List.getElem?_eq_getElem hjL] at h1
                    simpa using h1
                  obtain ⟨hj0, hh0⟩ : ∃ h, L[j].1 = h := ⟨_, rfl⟩
                  have HCi : Hid (w10.cell? ⟨og, 0 + j, none⟩ = some (.int .i64 hj0)) := hide (by
                    have := hcs j (.int .i64 L[j].1) (by rw [List.getElem?_map, List.getElem?_map, List.getElem?_eq_getElem hjL]; rfl)
                    rw [hh0] at this
                    exact this)
                  have HCx : Hid (w10.cell? ⟨vg, vo + j * 2, none⟩ = some (.int .i64 hj0)) := hide (by
                    have := (HK10.out.cells hcv (fun h => h)) 0 _ rfl
                    rw [hEL, hh0] at this
                    simpa using this)
                  clear hcs hcv hEL hh0 hjE hjL
                  go_wp2
                  refine hold_frame (p := fun fr => Code.wp Try.prog _ _ fr _) ?_
                  intro fr hfr
                  have e7 : fr.eval (.tmp 7) = .pointer (some ⟨bx, 0, none⟩) := by rw [hfr.out]; rfl
                  have e31 : fr.eval (.tmp 31) = .slice (some ⟨og, 0, none⟩) on oc := by rw [hfr.out]; rfl
                  have e32 : fr.eval (.tmp 32) = .int .i64 ((j : Nat) : Int) := by rw [hfr.out]; rfl
                  have hts : fr.tmps.size = 251 := by rw [hfr.out]; rfl
                  refine region_S0 99 Try.mixed ?_
                  intro w0 hkw hheap
                  have hP0 := (PT.out.same (HK10.out.trans (HKj.out.trans hkw (fun _ _ h => h)) (fun _ _ h => h)))
                  have hbx0 := hP0.blk
                  have hci := Kept.cell_ofP (HKj.out.trans hkw (fun _ _ h => h)) HCi.out
                  have hcx := Kept.cell_ofP (HKj.out.trans hkw (fun _ _ h => h)) HCx.out
                  have hS0 : Kept (fun _ => False) w0 w0 := Kept.refl (fun _ => False) w0
                  refine ⟨Kept (fun _ => False) w0, ?_⟩
                  refine tkS 0 238 (v := .slice (some ⟨og, 0, none⟩) on oc) hS0 rfl rfl (by kernel_rfl) (by kernel_rfl) (by kernel_rfl) (by kernel_rfl) (wanted_none rfl) (fun _ _ _ h => h) (fun U hU => r_move (by simp [eval_put_ne, eval_put_eq, size_put, hts, e31])) ?_
                  refine tkS 1 239 (v := .int .i64 ((j : Nat) : Int)) hS0 rfl rfl (by kernel_rfl) (by kernel_rfl) (by kernel_rfl) (by kernel_rfl) (wanted_none rfl) (fun _ _ _ h => h) (fun U hU => r_move (by simp [eval_put_ne, eval_put_eq, size_put, hts, e32])) ?_
                  refine tkS 2 240 (v := .pointer (some ⟨og, 0 + j, none⟩)) hS0 rfl rfl (by kernel_rfl) (by kernel_rfl) (by kernel_rfl) (by kernel_rfl) (wanted_none rfl) (fun _ _ _ h => h) (fun U hU => r_ixI (b := og) (off := 0) (len := on) (cap := oc) (kk := .i64) j (by simp [eval_put_ne, eval_put_eq, size_put, hts]) (by simp [eval_put_ne, eval_put_eq, size_put, hts]) hjt) ?_
                  refine tkS 3 241 (v := .int .i64 hj0) hS0 rfl rfl (by kernel_rfl) (by kernel_rfl) (by kernel_rfl) (by kernel_rfl) (wanted_none rfl) (fun _ _ _ h => h) (fun U hU => r_ldI (by simp [eval_put_ne, eval_put_eq, size_put, hts]) (hU.cell_ofP hci)) ?_
                  refine tkS 4 242 (v := .pointer (some ⟨bx, 2, none⟩)) hS0 rfl rfl (by kernel_rfl) (by kernel_rfl) (by kernel_rfl) (by kernel_rfl) (wanted_none rfl) (fun _ _ _ h => h) (fun U hU => r_fK2 (by simp [eval_put_ne, eval_put_eq, size_put, hts, e7])) ?_
                  refine tkS 5 243 (v := .slice (some ⟨vg, vo, none⟩) on vc) hS0 rfl rfl (by kernel_rfl) (by kernel_rfl) (by kernel_rfl) (by kernel_rfl) (wanted_none rfl) (fun _ _ _ h => h) (fun U hU => r_ldTS (by simp [eval_put_ne, eval_put_eq, size_put, hts]) ((hU.blk hbx0 (fun h => h)).cell 2)) ?_
                  refine tkS 6 244 (v := .int .i64 ((j : Nat) : Int)) hS0 rfl rfl (by kernel_rfl) (by kernel_rfl) (by kernel_rfl) (by kernel_rfl) (wanted_none rfl) (fun _ _ _ h => h) (fun U hU => r_move (by simp [eval_put_ne, eval_put_eq, size_put, hts, e32])) ?_
                  refine tkS 7 245 (v := .pointer (some ⟨vg, vo + j * 2, none⟩)) hS0 rfl rfl (by kernel_rfl) (by kernel_rfl) (by kernel_rfl) (by kernel_rfl) (wanted_none rfl) (fun _ _ _ h => h) (fun U hU => r_ixT (b := vg) (off := vo) (len := on) (cap := vc) (kk := .i64) j (by simp [eval_put_ne, eval_put_eq, size_put, hts]) (by simp [eval_put_ne, eval_put_eq, size_put, hts]) hjt) ?_
                  refine tkS 8 246 (v := .pointer (some ⟨vg, vo + j * 2, none⟩)) hS0 rfl rfl (by kernel_rfl) (by kernel_rfl) (by kernel_rfl) (by kernel_rfl) (wanted_none rfl) (fun _ _ _ h => h) (fun U hU => r_fX0 (by simp [eval_put_ne, eval_put_eq, size_put, hts])) ?_
                  refine tkS 9 247 (v := .int .i64 hj0) hS0 rfl rfl (by kernel_rfl) (by kernel_rfl) (by kernel_rfl) (by kernel_rfl) (wanted_none rfl) (fun _ _ _ h => h) (fun U hU => r_ldI (by simp [eval_put_ne, eval_put_eq, size_put, hts]) (hU.cell_ofP hcx)) ?_
                  refine tkS 10 248 (v := .bool false) hS0 rfl rfl (by kernel_rfl) (by kernel_rfl) (by kernel_rfl) (by kernel_rfl) (wanted_none rfl) (fun _ _ _ h => h) (fun U hU => (r_neqI (p := hj0) (q := hj0) (by simp [eval_put_ne, eval_put_eq, size_put, hts]) (by simp [eval_put_ne, eval_put_eq, size_put, hts])).trans (by simp)) ?_
                  refine doneS (by kernel_rfl) ?_
                  have HKj8 := hide (HKj.out.trans hkw (fun _ _ h => h))
                  clear hP0 hbx0 hci hcx hS0 hkw hheap
                  rw [hfr.out]
                  clear hfr e7 e31 e32 hts
                  simp only [put_lit, put_none, List.set_cons_succ, List.set_cons_zero]
                  go_wp2
                  go_roundw
                  case rel => exact ⟨j + 1, by simp, by omega, HKj8⟩
                  case measure => simp [intOf]; omega
                · obtain rfl : on = j := by omega
                  have hP := hide (PT.out.same (HK10.out.trans HKj.out (fun _ _ h => h)))
                  go_wp2
                  go_roundw
                  case rel => exact ⟨k + 1, la, L, X, _, E, by simp, by omega, by omega, hP, R9⟩
                  case measure => simp [intOf]; omega
            · skip
              obtain ⟨E9, hE9⟩ : ∃ E9, txErr n L hh kk = E9 := ⟨_, rfl⟩
              rw [hE9] at hte
              have e1 : w4.cell? ⟨ob, 1, none⟩ = some (.int .i64 hh) := HO4.out.cell 1
              have e2 : w4.cell? ⟨ob, 2, none⟩ = some (.int .i64 kk) := HO4.out.cell 2
              go_wp2_with (first | (with_reducible refine stop_load 30 ?_) | fail)
              refine hide ?_
              refine aw_load (M := [.int .i64 n, .int .i64 la, v]) Try.agg30 rfl P4.out.blk (by simp) rfl ?_
              try simp only [put_lit, put_none, List.set_cons_succ, List.set_cons_zero]
              go_wp2_with fail
              refine (rread_no w4 n la v E (P4.out.rf.now) HR.out.eSrt (by rw [HR.out.eLen]; have := HR.out.len; omega) hh kk E9 (by rw [HR.out.rows]; exact hE9) hte).mono ?_
              rintro e w5 ⟨rfl, hk5⟩
              rw [← strN_nil]
              have P5 := hide (P4.out.same hk5)
              have HO5 := hide (hk5.blk HO4.out (fun h => h))
              clear hk5 e1 e2
              have e1 : w5.cell? ⟨ob, 1, none⟩ = some (.int .i64 hh) := HO5.out.cell 1
              have e2 : w5.cell? ⟨ob, 2, none⟩ = some (.int .i64 kk) := HO5.out.cell 2
              go_wp2_with fail
              refine (read_no w5 b n la L X P5.out.tw.at_ (by have := HR.out.len; omega) hh kk E9 hE9 hte).mono ?_
              rintro e w9 ⟨rfl, hk9⟩
              have HY : Hid (Src w9 (.slice none 0 0) []) := hide (Src.nil _)
              skip
              have P9 := hide (P5.out.same hk9)
              have R9 := hide HR.out.next
              clear hk9 P5 P4 HO4 HO5 HO e1 e2
              go_wp2_with (first
                | (with_reducible refine stop_convert 40 9 ?_)
                | fail)
              refine hide ?_
              refine wpList_run rfl (r_strS rfl HY.out) ?_
              skip
              try simp only [put_lit, put_none, List.set_cons_succ, List.set_cons_zero]
              clear HR Hobx HY
              obtain ⟨vT, PT⟩ : ∃ vT, Hid (PS W w9 b bx n la L X la vT E) := ⟨_, P9⟩
              clear P9
              have hvs := (PT.out.rf.now).1
              obtain ⟨va, vc, rfl⟩ := hvs.sl
              obtain ⟨N, hN⟩ : ∃ N, (entsX E).length = N := ⟨_, rfl⟩
              have hNL : L.length = N := by rw [← hN, entsX_len, R9.out.eLen]
              have HNL := hide hNL
              rw [hN] at hvs PT
              try rw [hN]
              have HN := hide hN
              have HVs := hide hvs
              clear hN hNL hvs
              go_wp2_with fail
              refine (open_at w9 b n la L X PT.out.tw.at_ (by have := R9.out.len; omega)).mono ?_
              rintro e w10 ⟨⟨oa, on, oc⟩, rfl, hio, hk10⟩
              obtain rfl : on = N := by rw [← HNL.out]; have := hio.1; rw [List.length_map] at this; exact this
              have HIo := hide hio.2
              have HK10 := hide hk10
              have d2 : w10.cell? ⟨bx, 2, none⟩ = some (.slice va on vc) := (hk10.blk PT.out.blk (fun h => h)).cell 2
              have hon8 : on ≤ 8 := by rw [← HNL.out]; exact R9.out.len
              have hnn : ((on : Int) != (on : Int)) = false := by simp
              have hee : ((E9 : Int) != (E9 : Int)) = false := by simp
              clear hio hk10
              go_wp2
              clear d2
              go_loopw [235] (fun i wq => ∃ j : Nat, i = .int .i64 j ∧ j ≤ on ∧ Hid (Kept (fun _ => False) w10 wq)) (fun i _ => on - (intOf i).toNat)
              case atStart => exact ⟨0, rfl, Nat.zero_le _, hide (Kept.refl _ _)⟩
              case round =>
                obtain ⟨j, rfl, hj, HKj⟩ := hrel
                by_cases hjt : j < on
                · have hjL : j < L.length := by rw [HNL.out]; exact hjt
                  have hjE : j < (entsX E).length := by rw [HN.out]; exact hjt
                  obtain ⟨og, rfl, hcs⟩ := HIo.out (by rw [List.length_map]; omega)
                  obtain ⟨vg, vo, rfl, hcv⟩ := HVs.out.get hjE
                  have hEL : (entsX E)[j].1 = L[j].1 := by
                    have h1 : ((entsX E).map (·.1))[j]? = (L.map (·.1))[j]? := by
                      rw [← R9.out.rows]
                      unfold entsX rowsX mapK
                      rw [List.map_map, List.map_map]
                      rfl
                    rw [List.getElem?_map, List.getElem?_map, List.getElem?_eq_getElem hjE, List.getElem?_eq_getElem hjL] at h1
                    simpa using h1
                  obtain ⟨hj0, hh0⟩ : ∃ h, L[j].1 = h := ⟨_, rfl⟩
                  have HCi : Hid (w10.cell? ⟨og, 0 + j, none⟩ = some (.int .i64 hj0)) := hide (by
                    have := hcs j (.int .i64 L[j].1) (by rw [List.getElem?_map, List.getElem?_map, List.getElem?_eq_getElem hjL]; rfl)
                    rw [hh0] at this
                    exact this)
                  have HCx : Hid (w10.cell? ⟨vg, vo + j * 2, none⟩ = some (.int .i64 hj0)) := hide (by
                    have := (HK10.out.cells hcv (fun h => h)) 0 _ rfl
                    rw [hEL, hh0] at this
                    simpa using this)
                  clear hcs hcv hEL hh0 hjE hjL
                  go_wp2
                  refine hold_frame (p := fun fr => Code.wp Try.prog _ _ fr _) ?_
                  intro fr hfr
                  have e7 : fr.eval (.tmp 7) = .pointer (some ⟨bx, 0, none⟩) := by rw [hfr.out]; rfl
                  have e31 : fr.eval (.tmp 31) = .slice (some ⟨og, 0, none⟩) on oc := by rw [hfr.out]; rfl
                  have e32 : fr.eval (.tmp 32) = .int .i64 ((j : Nat) : Int) := by rw [hfr.out]; rfl
                  have hts : fr.tmps.size = 251 := by rw [hfr.out]; rfl
                  refine region_S0 99 Try.mixed ?_
                  intro w0 hkw hheap
                  have hP0 := (PT.out.same (HK10.out.trans (HKj.out.trans hkw (fun _ _ h => h)) (fun _ _ h => h)))
                  have hbx0 := hP0.blk
                  have hci := Kept.cell_ofP (HKj.out.trans hkw (fun _ _ h => h)) HCi.out
                  have hcx := Kept.cell_ofP (HKj.out.trans hkw (fun _ _ h => h)) HCx.out
                  have hS0 : Kept (fun _ => False) w0 w0 := Kept.refl (fun _ => False) w0
                  refine ⟨Kept (fun _ => False) w0, ?_⟩
                  refine tkS 0 238 (v := .slice (some ⟨og, 0, none⟩) on oc) hS0 rfl rfl (by kernel_rfl) (by kernel_rfl) (by kernel_rfl) (by kernel_rfl) (wanted_none rfl) (fun _ _ _ h => h) (fun U hU => r_move (by simp [eval_put_ne, eval_put_eq, size_put, hts, e31])) ?_
                  refine tkS 1 239 (v := .int .i64 ((j : Nat) : Int)) hS0 rfl rfl (by kernel_rfl) (by kernel_rfl) (by kernel_rfl) (by kernel_rfl) (wanted_none rfl) (fun _ _ _ h => h) (fun U hU => r_move (by simp [eval_put_ne, eval_put_eq, size_put, hts, e32])) ?_
                  refine tkS 2 240 (v := .pointer (some ⟨og, 0 + j, none⟩)) hS0 rfl rfl (by kernel_rfl) (by kernel_rfl) (by kernel_rfl) (by kernel_rfl) (wanted_none rfl) (fun _ _ _ h => h) (fun U hU => r_ixI (b := og) (off := 0) (len := on) (cap := oc) (kk := .i64) j (by simp [eval_put_ne, eval_put_eq, size_put, hts]) (by simp [eval_put_ne, eval_put_eq, size_put, hts]) hjt) ?_
                  refine tkS 3 241 (v := .int .i64 hj0) hS0 rfl rfl (by kernel_rfl) (by kernel_rfl) (by kernel_rfl) (by kernel_rfl) (wanted_none rfl) (fun _ _ _ h => h) (fun U hU => r_ldI (by simp [eval_put_ne, eval_put_eq, size_put, hts]) (hU.cell_ofP hci)) ?_
                  refine tkS 4 242 (v := .pointer (some ⟨bx, 2, none⟩)) hS0 rfl rfl (by kernel_rfl) (by kernel_rfl) (by kernel_rfl) (by kernel_rfl) (wanted_none rfl) (fun _ _ _ h => h) (fun U hU => r_fK2 (by simp [eval_put_ne, eval_put_eq, size_put, hts, e7])) ?_
                  refine tkS 5 243 (v := .slice (some ⟨vg, vo, none⟩) on vc) hS0 rfl rfl (by kernel_rfl) (by kernel_rfl) (by kernel_rfl) (by kernel_rfl) (wanted_none rfl) (fun _ _ _ h => h) (fun U hU => r_ldTS (by simp [eval_put_ne, eval_put_eq, size_put, hts]) ((hU.blk hbx0 (fun h => h)).cell 2)) ?_
                  refine tkS 6 244 (v := .int .i64 ((j : Nat) : Int)) hS0 rfl rfl (by kernel_rfl) (by kernel_rfl) (by kernel_rfl) (by kernel_rfl) (wanted_none rfl) (fun _ _ _ h => h) (fun U hU => r_move (by simp [eval_put_ne, eval_put_eq, size_put, hts, e32])) ?_
                  refine tkS 7 245 (v := .pointer (some ⟨vg, vo + j * 2, none⟩)) hS0 rfl rfl (by kernel_rfl) (by kernel_rfl) (by kernel_rfl) (by kernel_rfl) (wanted_none rfl) (fun _ _ _ h => h) (fun U hU => r_ixT (b := vg) (off := vo) (len := on) (cap := vc) (kk := .i64) j (by simp [eval_put_ne, eval_put_eq, size_put, hts]) (by simp [eval_put_ne, eval_put_eq, size_put, hts]) hjt) ?_
                  refine tkS 8 246 (v := .pointer (some ⟨vg, vo + j * 2, none⟩)) hS0 rfl rfl (by kernel_rfl) (by kernel_rfl) (by kernel_rfl) (by kernel_rfl) (wanted_none rfl) (fun _ _ _ h => h) (fun U hU => r_fX0 (by simp [eval_put_ne, eval_put_eq, size_put, hts])) ?_
                  refine tkS 9 247 (v := .int .i64 hj0) hS0 rfl rfl (by kernel_rfl) (by kernel_rfl) (by kernel_rfl) (by kernel_rfl) (wanted_none rfl) (fun _ _ _ h => h) (fun U hU => r_ldI (by simp [eval_put_ne, eval_put_eq, size_put, hts]) (hU.cell_ofP hcx)) ?_
                  refine tkS 10 248 (v := .bool false) hS0 rfl rfl (by kernel_rfl) (by kernel_rfl) (by kernel_rfl) (by kernel_rfl) (wanted_none rfl) (fun _ _ _ h => h) (fun U hU => (r_neqI (p := hj0) (q := hj0) (by simp [eval_put_ne, eval_put_eq, size_put, hts]) (by simp [eval_put_ne, eval_put_eq, size_put, hts])).trans (by simp)) ?_
                  refine doneS (by kernel_rfl) ?_
                  have HKj8 := hide (HKj.out.trans hkw (fun _ _ h => h))
                  clear hP0 hbx0 hci hcx hS0 hkw hheap
                  rw [hfr.out]
                  clear hfr e7 e31 e32 hts
                  simp only [put_lit, put_none, List.set_cons_succ, List.set_cons_zero]
                  go_wp2
                  go_roundw
                  case rel => exact ⟨j + 1, by simp, by omega, HKj8⟩
                  case measure => simp [intOf]; omega
                · obtain rfl : on = j := by omega
                  have hP := hide (PT.out.same (HK10.out.trans HKj.out (fun _ _ h => h)))
                  go_wp2
                  go_roundw
                  case rel => exact ⟨k + 1, la, L, X, _, E, by simp, by omega, by omega, hP, R9⟩
                  case measure => simp [intOf]; omega
          · as_aux_lemma =>
            by_cases hte : hasK ltI L hh = true
            · skip
              have e1 : w4.cell? ⟨ob, 1, none⟩ = some (.int .i64 hh) := HO4.out.cell 1
              go_wp2_with (first | (with_reducible refine stop_load 30 ?_) | fail)
              refine hide ?_
              refine aw_load (M := [.int .i64 n, .int .i64 la, v]) Try.agg30 rfl P4.out.blk (by simp) rfl ?_
              try simp only [put_lit, put_none, List.set_cons_succ, List.set_cons_zero]
              have hcurw := (P4.out.rf.now).cur hh
              have hrw := rwrites_ok w4 n la v E (P4.out.rf.now) HR.out.eSrt (by rw [HR.out.eLen]; have := HR.out.len; omega) hh (by rw [← ents_rows_has, HR.out.rows]; exact hte)
              have hval : (curX E hh).2.map Wv.wr = valK ltI [] L hh := by rw [← HR.out.rows, curX_rows]
              have HVal := hide hval
              generalize curX E hh = ce at hcurw hrw HVal
              clear hval
              obtain ⟨⟨ca, cn, cc⟩, cw⟩ := ce
              simp only at hcurw hrw HVal
              go_wp2_with fail
              refine hrw.mono ?_
              rintro e w5 ⟨rfl, hk5⟩
              have HCu := hide (hcurw.kept hk5)
              have P5 := hide (P4.out.same hk5)
              have HO5 := hide (hk5.blk HO4.out (fun h => h))
              clear hk5 e1 hcurw hrw
              have e1 : w5.cell? ⟨ob, 1, none⟩ = some (.int .i64 hh) := HO5.out.cell 1
              go_wp2_with fail
              refine (writes_ok w5 b n la L X P5.out.tw.at_ (by have := HR.out.len; omega) k (by omega) HR.out.ok hh hte).mono ?_
              rintro e w7 ⟨⟨ya, yn, yc⟩, ws, rfl, hy7, hwr7, hk7⟩
              have HSw := hide (sws_at w7 (.slice ca cn cc) (.slice ya yn yc) cw ws (HCu.out.kept hk7) hy7 true (sames (by rw [HVal.out, hwr7])))
              have P7 := hide (P5.out.same hk7)
              clear hy7 hwr7 hk7 HCu P5 HVal e1
              go_wp2_with fail
              refine HSw.out.mono ?_
              rintro e w9 ⟨rfl, hk9⟩
              have P9 := hide (P7.out.same hk9)
              have R9 := hide HR.out.next
              clear hk9 P7 P4 HO4 HO5 HO HSw HR Hobx
              obtain ⟨vT, PT⟩ : ∃ vT, Hid (PS W w9 b bx n la L X la vT E) := ⟨_, P9⟩
              clear P9
              have hvs := (PT.out.rf.now).1
              obtain ⟨va, vc, rfl⟩ := hvs.sl
              obtain ⟨N, hN⟩ : ∃ N, (entsX E).length = N := ⟨_, rfl⟩
              have hNL : L.length = N := by rw [← hN, entsX_len, R9.out.eLen]
              have HNL := hide hNL
              rw [hN] at hvs PT
              try rw [hN]
              have HN := hide hN
              have HVs := hide hvs
              clear hN hNL hvs
              go_wp2_with fail
              refine (open_at w9 b n la L X PT.out.tw.at_ (by have := R9.out.len; omega)).mono ?_
              rintro e w10 ⟨⟨oa, on, oc⟩, rfl, hio, hk10⟩
              obtain rfl : on = N := by rw [← HNL.out]; have := hio.1; rw [List.length_map] at this; exact this
              have HIo := hide hio.2
              have HK10 := hide hk10
              have d2 : w10.cell? ⟨bx, 2, none⟩ = some (.slice va on vc) := (hk10.blk PT.out.blk (fun h => h)).cell 2
              have hon8 : on ≤ 8 := by rw [← HNL.out]; exact R9.out.len
              have hnn : ((on : Int) != (on : Int)) = false := by simp
              have hee : ((0 : Int) != (0 : Int)) = false := by simp
              clear hio hk10
              go_wp2
              clear d2
              go_loopw [235] (fun i wq => ∃ j : Nat, i = .int .i64 j ∧ j ≤ on ∧ Hid (Kept (fun _ => False) w10 wq)) (fun i _ => on - (intOf i).toNat)
              case atStart => exact ⟨0, rfl, Nat.zero_le _, hide (Kept.refl _ _)⟩
              case round =>
                obtain ⟨j, rfl, hj, HKj⟩ := hrel
                by_cases hjt : j < on
                · have hjL : j < L.length := by rw [HNL.out]; exact hjt
                  have hjE : j < (entsX E).length := by rw [HN.out]; exact hjt
                  obtain ⟨og, rfl, hcs⟩ := HIo.out (by rw [List.length_map]; omega)
                  obtain ⟨vg, vo, rfl, hcv⟩ := HVs.out.get hjE
                  have hEL : (entsX E)[j].1 = L[j].1 := by
                    have h1 : ((entsX E).map (·.1))[j]? = (L.map (·.1))[j]? := by
                      rw [← R9.out.rows]
                      unfold entsX rowsX mapK
                      rw [List.map_map, List.map_map]
                      rfl
                    rw [List.getElem?_map, List.getElem?_map, List.getElem?_eq_getElem hjE, List.getElem?_eq_getElem hjL] at h1
                    simpa using h1
                  obtain ⟨hj0, hh0⟩ : ∃ h, L[j].1 = h := ⟨_, rfl⟩
                  have HCi : Hid (w10.cell? ⟨og, 0 + j, none⟩ = some (.int .i64 hj0)) := hide (by
                    have := hcs j (.int .i64 L[j].1) (by rw [List.getElem?_map, List.getElem?_map, List.getElem?_eq_getElem hjL]; rfl)
                    rw [hh0] at this
                    exact this)
                  have HCx : Hid (w10.cell? ⟨vg, vo + j * 2, none⟩ = some (.int .i64 hj0)) := hide (by
                    have := (HK10.out.cells hcv (fun h => h)) 0 _ rfl
                    rw [hEL, hh0] at this
                    simpa using this)
                  clear hcs hcv hEL hh0 hjE hjL
                  go_wp2
                  refine hold_frame (p := fun fr => Code.wp Try.prog _ _ fr _) ?_
                  intro fr hfr
                  have e7 : fr.eval (.tmp 7) = .pointer (some ⟨bx, 0, none⟩) := by rw [hfr.out]; rfl
                  have e31 : fr.eval (.tmp 31) = .slice (some ⟨og, 0, none⟩) on oc := by rw [hfr.out]; rfl
                  have e32 : fr.eval (.tmp 32) = .int .i64 ((j : Nat) : Int) := by rw [hfr.out]; rfl
                  have hts : fr.tmps.size = 251 := by rw [hfr.out]; rfl
                  refine region_S0 99 Try.mixed ?_
                  intro w0 hkw hheap
                  have hP0 := (PT.out.same (HK10.out.trans (HKj.out.trans hkw (fun _ _ h => h)) (fun _ _ h => h)))
                  have hbx0 := hP0.blk
                  have hci := Kept.cell_ofP (HKj.out.trans hkw (fun _ _ h => h)) HCi.out
                  have hcx := Kept.cell_ofP (HKj.out.trans hkw (fun _ _ h => h)) HCx.out
                  have hS0 : Kept (fun _ => False) w0 w0 := Kept.refl (fun _ => False) w0
                  refine ⟨Kept (fun _ => False) w0, ?_⟩
                  refine tkS 0 238 (v := .slice (some ⟨og, 0, none⟩) on oc) hS0 rfl rfl (by kernel_rfl) (by kernel_rfl) (by kernel_rfl) (by kernel_rfl) (wanted_none rfl) (fun _ _ _ h => h) (fun U hU => r_move (by simp [eval_put_ne, eval_put_eq, size_put, hts, e31])) ?_
                  refine tkS 1 239 (v := .int .i64 ((j : Nat) : Int)) hS0 rfl rfl (by kernel_rfl) (by kernel_rfl) (by kernel_rfl) (by kernel_rfl) (wanted_none rfl) (fun _ _ _ h => h) (fun U hU => r_move (by simp [eval_put_ne, eval_put_eq, size_put, hts, e32])) ?_
                  refine tkS 2 240 (v := .pointer (some ⟨og, 0 + j, none⟩)) hS0 rfl rfl (by kernel_rfl) (by kernel_rfl) (by kernel_rfl) (by kernel_rfl) (wanted_none rfl) (fun _ _ _ h => h) (fun U hU => r_ixI (b := og) (off := 0) (len := on) (cap := oc) (kk := .i64) j (by simp [eval_put_ne, eval_put_eq, size_put, hts]) (by simp [eval_put_ne, eval_put_eq, size_put, hts]) hjt) ?_
                  refine tkS 3 241 (v := .int .i64 hj0) hS0 rfl rfl (by kernel_rfl) (by kernel_rfl) (by kernel_rfl) (by kernel_rfl) (wanted_none rfl) (fun _ _ _ h => h) (fun U hU => r_ldI (by simp [eval_put_ne, eval_put_eq, size_put, hts]) (hU.cell_ofP hci)) ?_
                  refine tkS 4 242 (v := .pointer (some ⟨bx, 2, none⟩)) hS0 rfl rfl (by kernel_rfl) (by kernel_rfl) (by kernel_rfl) (by kernel_rfl) (wanted_none rfl) (fun _ _ _ h => h) (fun U hU => r_fK2 (by simp [eval_put_ne, eval_put_eq, size_put, hts, e7])) ?_
                  refine tkS 5 243 (v := .slice (some ⟨vg, vo, none⟩) on vc) hS0 rfl rfl (by kernel_rfl) (by kernel_rfl) (by kernel_rfl) (by kernel_rfl) (wanted_none rfl) (fun _ _ _ h => h) (fun U hU => r_ldTS (by simp [eval_put_ne, eval_put_eq, size_put, hts]) ((hU.blk hbx0 (fun h => h)).cell 2)) ?_
                  refine tkS 6 244 (v := .int .i64 ((j : Nat) : Int)) hS0 rfl rfl (by kernel_rfl) (by kernel_rfl) (by kernel_rfl) (by kernel_rfl) (wanted_none rfl) (fun _ _ _ h => h) (fun U hU => r_move (by simp [eval_put_ne, eval_put_eq, size_put, hts, e32])) ?_
                  refine tkS 7 245 (v := .pointer (some ⟨vg, vo + j * 2, none⟩)) hS0 rfl rfl (by kernel_rfl) (by kernel_rfl) (by kernel_rfl) (by kernel_rfl) (wanted_none rfl) (fun _ _ _ h => h) (fun U hU => r_ixT (b := vg) (off := vo) (len := on) (cap := vc) (kk := .i64) j (by simp [eval_put_ne, eval_put_eq, size_put, hts]) (by simp [eval_put_ne, eval_put_eq, size_put, hts]) hjt) ?_
                  refine tkS 8 246 (v := .pointer (some ⟨vg, vo + j * 2, none⟩)) hS0 rfl rfl (by kernel_rfl) (by kernel_rfl) (by kernel_rfl) (by kernel_rfl) (wanted_none rfl) (fun _ _ _ h => h) (fun U hU => r_fX0 (by simp [eval_put_ne, eval_put_eq, size_put, hts])) ?_
                  refine tkS 9 247 (v := .int .i64 hj0) hS0 rfl rfl (by kernel_rfl) (by kernel_rfl) (by kernel_rfl) (by kernel_rfl) (wanted_none rfl) (fun _ _ _ h => h) (fun U hU => r_ldI (by simp [eval_put_ne, eval_put_eq, size_put, hts]) (hU.cell_ofP hcx)) ?_
                  refine tkS 10 248 (v := .bool false) hS0 rfl rfl (by kernel_rfl) (by kernel_rfl) (by kernel_rfl) (by kernel_rfl) (wanted_none rfl) (fun _ _ _ h => h) (fun U hU => (r_neqI (p := hj0) (q := hj0) (by simp [eval_put_ne, eval_put_eq, size_put, hts]) (by simp [eval_put_ne, eval_put_eq, size_put, hts])).trans (by simp)) ?_
                  refine doneS (by kernel_rfl) ?_
                  have HKj8 := hide (HKj.out.trans hkw (fun _ _ h => h))
                  clear hP0 hbx0 hci hcx hS0 hkw hheap
                  rw [hfr.out]
                  clear hfr e7 e31 e32 hts
                  simp only [put_lit, put_none, List.set_cons_succ, List.set_cons_zero]
                  go_wp2
                  go_roundw
                  case rel => exact ⟨j + 1, by simp, by omega, HKj8⟩
                  case measure => simp [intOf]; omega
                · obtain rfl : on = j := by omega
                  have hP := hide (PT.out.same (HK10.out.trans HKj.out (fun _ _ h => h)))
                  go_wp2
                  go_roundw
                  case rel => exact ⟨k + 1, la, L, X, _, E, by simp, by omega, by omega, hP, R9⟩
                  case measure => simp [intOf]; omega
            · skip
              have e1 : w4.cell? ⟨ob, 1, none⟩ = some (.int .i64 hh) := HO4.out.cell 1
              go_wp2_with (first | (with_reducible refine stop_load 30 ?_) | fail)
              refine hide ?_
              refine aw_load (M := [.int .i64 n, .int .i64 la, v]) Try.agg30 rfl P4.out.blk (by simp) rfl ?_
              try simp only [put_lit, put_none, List.set_cons_succ, List.set_cons_zero]
              go_wp2_with fail
              refine (rwrites_no w4 n la v E (P4.out.rf.now) HR.out.eSrt (by rw [HR.out.eLen]; have := HR.out.len; omega) hh (by rw [← ents_rows_has, HR.out.rows]; simpa using hte)).mono ?_
              rintro e w5 ⟨rfl, hk5⟩
              have P5 := hide (P4.out.same hk5)
              have HO5 := hide (hk5.blk HO4.out (fun h => h))
              clear hk5 e1
              have e1 : w5.cell? ⟨ob, 1, none⟩ = some (.int .i64 hh) := HO5.out.cell 1
              go_wp2_with fail
              refine (writes_no w5 b n la L X P5.out.tw.at_ (by have := HR.out.len; omega) hh (by simpa using hte)).mono ?_
              rintro e w7 ⟨rfl, hk7⟩
              have P7 := hide (P5.out.same hk7)
              clear hk7 P5 e1
              go_wp2_with fail
              refine (sws_at w7 (.slice none 0 0) (.slice none 0 0) [] [] (WsAt.nil _) (WsAt.nil _) true rfl).mono ?_
              rintro e w9 ⟨rfl, hk9⟩
              have P9 := hide (P7.out.same hk9)
              have R9 := hide HR.out.next
              clear hk9 P7 P4 HO4 HO5 HO HR Hobx
              obtain ⟨vT, PT⟩ : ∃ vT, Hid (PS W w9 b bx n la L X la vT E) := ⟨_, P9⟩
              clear P9
              have hvs := (PT.out.rf.now).1
              obtain ⟨va, vc, rfl⟩ := hvs.sl
              obtain ⟨N, hN⟩ : ∃ N, (entsX E).length = N := ⟨_, rfl⟩
              have hNL : L.length = N := by rw [← hN, entsX_len, R9.out.eLen]
              have HNL := hide hNL
              rw [hN] at hvs PT
              try rw [hN]
              have HN := hide hN
              have HVs := hide hvs
              clear hN hNL hvs
              go_wp2_with fail
              refine (open_at w9 b n la L X PT.out.tw.at_ (by have := R9.out.len; omega)).mono ?_
              rintro e w10 ⟨⟨oa, on, oc⟩, rfl, hio, hk10⟩
              obtain rfl : on = N := by rw [← HNL.out]; have := hio.1; rw [List.length_map] at this; exact this
              have HIo := hide hio.2
              have HK10 := hide hk10
              have d2 : w10.cell? ⟨bx, 2, none⟩ = some (.slice va on vc) := (hk10.blk PT.out.blk (fun h => h)).cell 2
              have hon8 : on ≤ 8 := by rw [← HNL.out]; exact R9.out.len
              have hnn : ((on : Int) != (on : Int)) = false := by simp
              have hee : ((40 : Int) != (40 : Int)) = false := by simp
              clear hio hk10
              go_wp2
              clear d2
              go_loopw [235] (fun i wq => ∃ j : Nat, i = .int .i64 j ∧ j ≤ on ∧ Hid (Kept (fun _ => False) w10 wq)) (fun i _ => on - (intOf i).toNat)
              case atStart => exact ⟨0, rfl, Nat.zero_le _, hide (Kept.refl _ _)⟩
              case round =>
                obtain ⟨j, rfl, hj, HKj⟩ := hrel
                by_cases hjt : j < on
                · have hjL : j < L.length := by rw [HNL.out]; exact hjt
                  have hjE : j < (entsX E).length := by rw [HN.out]; exact hjt
                  obtain ⟨og, rfl, hcs⟩ := HIo.out (by rw [List.length_map]; omega)
                  obtain ⟨vg, vo, rfl, hcv⟩ := HVs.out.get hjE
                  have hEL : (entsX E)[j].1 = L[j].1 := by
                    have h1 : ((entsX E).map (·.1))[j]? = (L.map (·.1))[j]? := by
                      rw [← R9.out.rows]
                      unfold entsX rowsX mapK
                      rw [List.map_map, List.map_map]
                      rfl
                    rw [List.getElem?_map, List.getElem?_map, List.getElem?_eq_getElem hjE, List.getElem?_eq_getElem hjL] at h1
                    simpa using h1
                  obtain ⟨hj0, hh0⟩ : ∃ h, L[j].1 = h := ⟨_, rfl⟩
                  have HCi : Hid (w10.cell? ⟨og, 0 + j, none⟩ = some (.int .i64 hj0)) := hide (by
                    have := hcs j (.int .i64 L[j].1) (by rw [List.getElem?_map, List.getElem?_map, List.getElem?_eq_getElem hjL]; rfl)
                    rw [hh0] at this
                    exact this)
                  have HCx : Hid (w10.cell? ⟨vg, vo + j * 2, none⟩ = some (.int .i64 hj0)) := hide (by
                    have := (HK10.out.cells hcv (fun h => h)) 0 _ rfl
                    rw [hEL, hh0] at this
                    simpa using this)
                  clear hcs hcv hEL hh0 hjE hjL
                  go_wp2
                  refine hold_frame (p := fun fr => Code.wp Try.prog _ _ fr _) ?_
                  intro fr hfr
                  have e7 : fr.eval (.tmp 7) = .pointer (some ⟨bx, 0, none⟩) := by rw [hfr.out]; rfl
                  have e31 : fr.eval (.tmp 31) = .slice (some ⟨og, 0, none⟩) on oc := by rw [hfr.out]; rfl
                  have e32 : fr.eval (.tmp 32) = .int .i64 ((j : Nat) : Int) := by rw [hfr.out]; rfl
                  have hts : fr.tmps.size = 251 := by rw [hfr.out]; rfl
                  refine region_S0 99 Try.mixed ?_
                  intro w0 hkw hheap
                  have hP0 := (PT.out.same (HK10.out.trans (HKj.out.trans hkw (fun _ _ h => h)) (fun _ _ h => h)))
                  have hbx0 := hP0.blk
                  have hci := Kept.cell_ofP (HKj.out.trans hkw (fun _ _ h => h)) HCi.out
                  have hcx := Kept.cell_ofP (HKj.out.trans hkw (fun _ _ h => h)) HCx.out
                  have hS0 : Kept (fun _ => False) w0 w0 := Kept.refl (fun _ => False) w0
                  refine ⟨Kept (fun _ => False) w0, ?_⟩
                  refine tkS 0 238 (v := .slice (some ⟨og, 0, none⟩) on oc) hS0 rfl rfl (by kernel_rfl) (by kernel_rfl) (by kernel_rfl) (by kernel_rfl) (wanted_none rfl) (fun _ _ _ h => h) (fun U hU => r_move (by simp [eval_put_ne, eval_put_eq, size_put, hts, e31])) ?_
                  refine tkS 1 239 (v := .int .i64 ((j : Nat) : Int)) hS0 rfl rfl (by kernel_rfl) (by kernel_rfl) (by kernel_rfl) (by kernel_rfl) (wanted_none rfl) (fun _ _ _ h => h) (fun U hU => r_move (by simp [eval_put_ne, eval_put_eq, size_put, hts, e32])) ?_
                  refine tkS 2 240 (v := .pointer (some ⟨og, 0 + j, none⟩)) hS0 rfl rfl (by kernel_rfl) (by kernel_rfl) (by kernel_rfl) (by kernel_rfl) (wanted_none rfl) (fun _ _ _ h => h) (fun U hU => r_ixI (b := og) (off := 0) (len := on) (cap := oc) (kk := .i64) j (by simp [eval_put_ne, eval_put_eq, size_put, hts]) (by simp [eval_put_ne, eval_put_eq, size_put, hts]) hjt) ?_
                  refine tkS 3 241 (v := .int .i64 hj0) hS0 rfl rfl (by kernel_rfl) (by kernel_rfl) (by kernel_rfl) (by kernel_rfl) (wanted_none rfl) (fun _ _ _ h => h) (fun U hU => r_ldI (by simp [eval_put_ne, eval_put_eq, size_put, hts]) (hU.cell_ofP hci)) ?_
                  refine tkS 4 242 (v := .pointer (some ⟨bx, 2, none⟩)) hS0 rfl rfl (by kernel_rfl) (by kernel_rfl) (by kernel_rfl) (by kernel_rfl) (wanted_none rfl) (fun _ _ _ h => h) (fun U hU => r_fK2 (by simp [eval_put_ne, eval_put_eq, size_put, hts, e7])) ?_
                  refine tkS 5 243 (v := .slice (some ⟨vg, vo, none⟩) on vc) hS0 rfl rfl (by kernel_rfl) (by kernel_rfl) (by kernel_rfl) (by kernel_rfl) (wanted_none rfl) (fun _ _ _ h => h) (fun U hU => r_ldTS (by simp [eval_put_ne, eval_put_eq, size_put, hts]) ((hU.blk hbx0 (fun h => h)).cell 2)) ?_
                  refine tkS 6 244 (v := .int .i64 ((j : Nat) : Int)) hS0 rfl rfl (by kernel_rfl) (by kernel_rfl) (by kernel_rfl) (by kernel_rfl) (wanted_none rfl) (fun _ _ _ h => h) (fun U hU => r_move (by simp [eval_put_ne, eval_put_eq, size_put, hts, e32])) ?_
                  refine tkS 7 245 (v := .pointer (some ⟨vg, vo + j * 2, none⟩)) hS0 rfl rfl (by kernel_rfl) (by kernel_rfl) (by kernel_rfl) (by kernel_rfl) (wanted_none rfl) (fun _ _ _ h => h) (fun U hU => r_ixT (b := vg) (off := vo) (len := on) (cap := vc) (kk := .i64) j (by simp [eval_put_ne, eval_put_eq, size_put, hts]) (by simp [eval_put_ne, eval_put_eq, size_put, hts]) hjt) ?_
                  refine tkS 8 246 (v := .pointer (some ⟨vg, vo + j * 2, none⟩)) hS0 rfl rfl (by kernel_rfl) (by kernel_rfl) (by kernel_rfl) (by kernel_rfl) (wanted_none rfl) (fun _ _ _ h => h) (fun U hU => r_fX0 (by simp [eval_put_ne, eval_put_eq, size_put, hts])) ?_
                  refine tkS 9 247 (v := .int .i64 hj0) hS0 rfl rfl (by kernel_rfl) (by kernel_rfl) (by kernel_rfl) (by kernel_rfl) (wanted_none rfl) (fun _ _ _ h => h) (fun U hU => r_ldI (by simp [eval_put_ne, eval_put_eq, size_put, hts]) (hU.cell_ofP hcx)) ?_
                  refine tkS 10 248 (v := .bool false) hS0 rfl rfl (by kernel_rfl) (by kernel_rfl) (by kernel_rfl) (by kernel_rfl) (wanted_none rfl) (fun _ _ _ h => h) (fun U hU => (r_neqI (p := hj0) (q := hj0) (by simp [eval_put_ne, eval_put_eq, size_put, hts]) (by simp [eval_put_ne, eval_put_eq, size_put, hts])).trans (by simp)) ?_
                  refine doneS (by kernel_rfl) ?_
                  have HKj8 := hide (HKj.out.trans hkw (fun _ _ h => h))
                  clear hP0 hbx0 hci hcx hS0 hkw hheap
                  rw [hfr.out]
                  clear hfr e7 e31 e32 hts
                  simp only [put_lit, put_none, List.set_cons_succ, List.set_cons_zero]
                  go_wp2
                  go_roundw
                  case rel => exact ⟨j + 1, by simp, by omega, HKj8⟩
                  case measure => simp [intOf]; omega
                · obtain rfl : on = j := by omega
                  have hP := hide (PT.out.same (HK10.out.trans HKj.out (fun _ _ h => h)))
                  go_wp2
                  go_roundw
                  case rel => exact ⟨k + 1, la, L, X, _, E, by simp, by omega, by omega, hP, R9⟩
                  case measure => simp [intOf]; omega
          · as_aux_lemma =>
            have e1 : w4.cell? ⟨ob, 1, none⟩ = some (.int .i64 hh) := HO4.out.cell 1
            go_wp2_with (first | (with_reducible refine stop_load 30 ?_) | fail)
            refine hide ?_
            refine aw_load (M := [.int .i64 n, .int .i64 la, v]) Try.agg30 rfl P4.out.blk (by simp) rfl ?_
            try simp only [put_lit, put_none, List.set_cons_succ, List.set_cons_zero]
            go_wp2_with fail
            refine (rend_at w4 n la v E _ P4.out.rf P4.out.lt HR.out.eSrt (by rw [HR.out.eLen]; have := HR.out.len; omega) hh).mono ?_
            rintro e w5 ⟨v5, rfl, hr5, hk5⟩
            rw [← ents_rows_has, HR.out.rows]
            obtain ⟨E9, hE9⟩ : ∃ E9 : Int, (if hasK ltI L hh then (0 : Int) else 40) = E9 := ⟨_, rfl⟩
            rw [hE9]
            have HE9 := hide hE9
            have P5 := hide (P4.out.same hk5)
            have HO5 := hide (hk5.blk HO4.out (fun h => h))
            have HR5 := hide hr5
            clear hk5 hr5 hE9 e1
            go_wp2_with (first | (with_reducible refine stop_store 30 ?_) | fail)
            refine hide ?_
            have one6 : ∀ u ∈ [.int .i64 n, .int .i64 la, v5], u.oneCell' = true := by
              obtain ⟨qa, qc, hq⟩ := (HR5.out.now).1.sl
              subst hq
              simp [Value.oneCell']
            refine aw_store (M := [.int .i64 n, .int .i64 la, v5]) Try.agg30 rfl rfl rfl one6 P5.out.blk (by simp) ?_
            intro w6 hw6 hk6 hz6
            rw [put_whole _ _ (by simp)] at hw6
            have P6 := hide (P5.out.store HR5.out hw6 hk6)
            have HO6 := hide (hk6.blk HO5.out (fun e => Hobx.out e))
            clear hw6 hk6 hz6 one6
            try simp only [put_lit, put_none, List.set_cons_succ, List.set_cons_zero]
            have e1 : w6.cell? ⟨ob, 1, none⟩ = some (.int .i64 hh) := HO6.out.cell 1
            go_wp2_with fail
            refine (end_at w6 b n la L X P6.out.tw.at_ (by have := HR.out.len; omega) hh).mono ?_
            rintro e w9 ⟨he, hs9⟩
            rw [HE9.out] at he
            subst he
            obtain ⟨X9, hp9, _⟩ := P6.out.prog hs9
            have P9 := hide hp9
            have R9 := hide (HR.out.del hh)
            generalize delK ltI L hh = L9 at P9 R9
            generalize delK ltI E hh = Ex at P9 R9
            clear hs9 hp9 HE9 P6 P5 P4 HO4 HO5 HO6 HO HR5 HR Hobx e1
            obtain ⟨vT, PT⟩ : ∃ vT, Hid (PS W w9 b bx n la L9 X9 la vT Ex) := ⟨_, P9⟩
            clear P9
            have hvs := (PT.out.rf.now).1
            obtain ⟨va, vc, rfl⟩ := hvs.sl
            obtain ⟨N, hN⟩ : ∃ N, (entsX Ex).length = N := ⟨_, rfl⟩
            have hNL : L9.length = N := by rw [← hN, entsX_len, R9.out.eLen]
            have HNL := hide hNL
            rw [hN] at hvs PT
            try rw [hN]
            have HN := hide hN
            have HVs := hide hvs
            clear hN hNL hvs
            go_wp2_with fail
            refine (open_at w9 b n la L9 X9 PT.out.tw.at_ (by have := R9.out.len; omega)).mono ?_
            rintro e w10 ⟨⟨oa, on, oc⟩, rfl, hio, hk10⟩
            obtain rfl : on = N := by rw [← HNL.out]; have := hio.1; rw [List.length_map] at this; exact this
            have HIo := hide hio.2
            have HK10 := hide hk10
            have d2 : w10.cell? ⟨bx, 2, none⟩ = some (.slice va on vc) := (hk10.blk PT.out.blk (fun h => h)).cell 2
            have hon8 : on ≤ 8 := by rw [← HNL.out]; exact R9.out.len
            have hnn : ((on : Int) != (on : Int)) = false := by simp
            have hee : ((E9 : Int) != (E9 : Int)) = false := by simp
            clear hio hk10
            go_wp2
            clear d2
            go_loopw [235] (fun i wq => ∃ j : Nat, i = .int .i64 j ∧ j ≤ on ∧ Hid (Kept (fun _ => False) w10 wq)) (fun i _ => on - (intOf i).toNat)
            case atStart => exact ⟨0, rfl, Nat.zero_le _, hide (Kept.refl _ _)⟩
            case round =>
              obtain ⟨j, rfl, hj, HKj⟩ := hrel
              by_cases hjt : j < on
              · have hjL : j < L9.length := by rw [HNL.out]; exact hjt
                have hjE : j < (entsX Ex).length := by rw [HN.out]; exact hjt
                obtain ⟨og, rfl, hcs⟩ := HIo.out (by rw [List.length_map]; omega)
                obtain ⟨vg, vo, rfl, hcv⟩ := HVs.out.get hjE
                have hEL : (entsX Ex)[j].1 = L9[j].1 := by
                  have h1 : ((entsX Ex).map (·.1))[j]? = (L9.map (·.1))[j]? := by
                    rw [← R9.out.rows]
                    unfold entsX rowsX mapK
                    rw [List.map_map, List.map_map]
                    rfl
                  rw [List.getElem?_map, List.getElem?_map, List.getElem?_eq_getElem hjE, List.getElem?_eq_getElem hjL] at h1
                  simpa using h1
                obtain ⟨hj0, hh0⟩ : ∃ h, L9[j].1 = h := ⟨_, rfl⟩
                have HCi : Hid (w10.cell? ⟨og, 0 + j, none⟩ = some (.int .i64 hj0)) := hide (by
                  have := hcs j (.int .i64 L9[j].1) (by rw [List.getElem?_map, List.getElem?_map, List.getElem?_eq_getElem hjL]; rfl)
                  rw [hh0] at this
                  exact this)
                have HCx : Hid (w10.cell? ⟨vg, vo + j * 2, none⟩ = some (.int .i64 hj0)) := hide (by
                  have := (HK10.out.cells hcv (fun h => h)) 0 _ rfl
                  rw [hEL, hh0] at this
                  simpa using this)
                clear hcs hcv hEL hh0 hjE hjL
                go_wp2
                refine hold_frame (p := fun fr => Code.wp Try.prog _ _ fr _) ?_
                intro fr hfr
                have e7 : fr.eval (.tmp 7) = .pointer (some ⟨bx, 0, none⟩) := by rw [hfr.out]; rfl
                have e31 : fr.eval (.tmp 31) = .slice (some ⟨og, 0, none⟩) on oc := by rw [hfr.out]; rfl
                have e32 : fr.eval (.tmp 32) = .int .i64 ((j : Nat) : Int) := by rw [hfr.out]; rfl
                have hts : fr.tmps.size = 251 := by rw [hfr.out]; rfl
                refine region_S0 99 Try.mixed ?_
                intro w0 hkw hheap
                have hP0 := (PT.out.same (HK10.out.trans (HKj.out.trans hkw (fun _ _ h => h)) (fun _ _ h => h)))
                have hbx0 := hP0.blk
                have hci := Kept.cell_ofP (HKj.out.trans hkw (fun _ _ h => h)) HCi.out
                have hcx := Kept.cell_ofP (HKj.out.trans hkw (fun _ _ h => h)) HCx.out
                have hS0 : Kept (fun _ => False) w0 w0 := Kept.refl (fun _ => False) w0
                refine ⟨Kept (fun _ => False) w0, ?_⟩
                refine tkS 0 238 (v := .slice (some ⟨og, 0, none⟩) on oc) hS0 rfl rfl (by kernel_rfl) (by kernel_rfl) (by kernel_rfl) (by kernel_rfl) (wanted_none rfl) (fun _ _ _ h => h) (fun U hU => r_move (by simp [eval_put_ne, eval_put_eq, size_put, hts, e31])) ?_
                refine tkS 1 239 (v := .int .i64 ((j : Nat) : Int)) hS0 rfl rfl (by kernel_rfl) (by kernel_rfl) (by kernel_rfl) (by kernel_rfl) (wanted_none rfl) (fun _ _ _ h => h) (fun U hU => r_move (by simp [eval_put_ne, eval_put_eq, size_put, hts, e32])) ?_
                refine tkS 2 240 (v := .pointer (some ⟨og, 0 + j, none⟩)) hS0 rfl rfl (by kernel_rfl) (by kernel_rfl) (by kernel_rfl) (by kernel_rfl) (wanted_none rfl) (fun _ _ _ h => h) (fun U hU => r_ixI (b := og) (off := 0) (len := on) (cap := oc) (kk := .i64) j (by simp [eval_put_ne, eval_put_eq, size_put, hts]) (by simp [eval_put_ne, eval_put_eq, size_put, hts]) hjt) ?_
                refine tkS 3 241 (v := .int .i64 hj0) hS0 rfl rfl (by kernel_rfl) (by kernel_rfl) (by kernel_rfl) (by kernel_rfl) (wanted_none rfl) (fun _ _ _ h => h) (fun U hU => r_ldI (by simp [eval_put_ne, eval_put_eq, size_put, hts]) (hU.cell_ofP hci)) ?_
                refine tkS 4 242 (v := .pointer (some ⟨bx, 2, none⟩)) hS0 rfl rfl (by kernel_rfl) (by kernel_rfl) (by kernel_rfl) (by kernel_rfl) (wanted_none rfl) (fun _ _ _ h => h) (fun U hU => r_fK2 (by simp [eval_put_ne, eval_put_eq, size_put, hts, e7])) ?_
                refine tkS 5 243 (v := .slice (some ⟨vg, vo, none⟩) on vc) hS0 rfl rfl (by kernel_rfl) (by kernel_rfl) (by kernel_rfl) (by kernel_rfl) (wanted_none rfl) (fun _ _ _ h => h) (fun U hU => r_ldTS (by simp [eval_put_ne, eval_put_eq, size_put, hts]) ((hU.blk hbx0 (fun h => h)).cell 2)) ?_
                refine tkS 6 244 (v := .int .i64 ((j : Nat) : Int)) hS0 rfl rfl (by kernel_rfl) (by kernel_rfl) (by kernel_rfl) (by kernel_rfl) (wanted_none rfl) (fun _ _ _ h => h) (fun U hU => r_move (by simp [eval_put_ne, eval_put_eq, size_put, hts, e32])) ?_
                refine tkS 7 245 (v := .pointer (some ⟨vg, vo + j * 2, none⟩)) hS0 rfl rfl (by kernel_rfl) (by kernel_rfl) (by kernel_rfl) (by kernel_rfl) (wanted_none rfl) (fun _ _ _ h => h) (fun U hU => r_ixT (b := vg) (off := vo) (len := on) (cap := vc) (kk := .i64) j (by simp [eval_put_ne, eval_put_eq, size_put, hts]) (by simp [eval_put_ne, eval_put_eq, size_put, hts]) hjt) ?_
                refine tkS 8 246 (v := .pointer (some ⟨vg, vo + j * 2, none⟩)) hS0 rfl rfl (by kernel_rfl) (by kernel_rfl) (by kernel_rfl) (by kernel_rfl) (wanted_none rfl) (fun _ _ _ h => h) (fun U hU => r_fX0 (by simp [eval_put_ne, eval_put_eq, size_put, hts])) ?_
                refine tkS 9 247 (v := .int .i64 hj0) hS0 rfl rfl (by kernel_rfl) (by kernel_rfl) (by kernel_rfl) (by kernel_rfl) (wanted_none rfl) (fun _ _ _ h => h) (fun U hU => r_ldI (by simp [eval_put_ne, eval_put_eq, size_put, hts]) (hU.cell_ofP hcx)) ?_
                refine tkS 10 248 (v := .bool false) hS0 rfl rfl (by kernel_rfl) (by kernel_rfl) (by kernel_rfl) (by kernel_rfl) (wanted_none rfl) (fun _ _ _ h => h) (fun U hU => (r_neqI (p := hj0) (q := hj0) (by simp [eval_put_ne, eval_put_eq, size_put, hts]) (by simp [eval_put_ne, eval_put_eq, size_put, hts])).trans (by simp)) ?_
                refine doneS (by kernel_rfl) ?_
                have HKj8 := hide (HKj.out.trans hkw (fun _ _ h => h))
                clear hP0 hbx0 hci hcx hS0 hkw hheap
                rw [hfr.out]
                clear hfr e7 e31 e32 hts
                simp only [put_lit, put_none, List.set_cons_succ, List.set_cons_zero]
                go_wp2
                go_roundw
                case rel => exact ⟨j + 1, by simp, by omega, HKj8⟩
                case measure => simp [intOf]; omega
              · obtain rfl : on = j := by omega
                have hP := hide (PT.out.same (HK10.out.trans HKj.out (fun _ _ h => h)))
                go_wp2
                go_roundw
                case rel => exact ⟨k + 1, la, L9, X9, _, Ex, by simp, by omega, by omega, hP, R9⟩
                case measure => simp [intOf]; omega
          · as_aux_lemma =>
            have b2 : w4.cell? ⟨bx, 2, none⟩ = some v := P4.out.blk.cell 2
            have g2 : w4.frozen? ⟨bx, 2, none⟩ = false := P4.out.blk.frozen 2
            obtain ⟨qa, qc, hq5⟩ := (P4.out.rf.now).1.sl
            subst hq5
            have hb6 := P4.out.blk.setCell 2 (.slice none 0 0)
            have hk6 := Kept.setCell (S := fun k => k = bx) w4 ⟨bx, 2, none⟩ (.slice none 0 0) rfl
            have P6 := hide (P4.out.store (RfT.nil _ _) hb6 hk6)
            clear hb6 hk6
            go_wp2_with fail
            generalize w4.setCell ⟨bx, 2, none⟩ (.slice none 0 0) = w6 at P6 ⊢
            refine (clear_at w6 b n la L X P6.out.tw.at_).mono ?_
            rintro e w9 ⟨rfl, hs9⟩
            obtain ⟨X9, hp9, _⟩ := P6.out.prog hs9
            have P9 := hide hp9
            obtain ⟨v9, hv9⟩ : ∃ v9 : Value, v9 = .slice none 0 0 := ⟨_, rfl⟩
            rw [← hv9] at P9
            clear hv9
            have R9 := hide HR.out.clear
            obtain ⟨L9, hL9⟩ : ∃ L9 : Txs, L9 = [] := ⟨_, rfl⟩
            obtain ⟨Ex, hEx⟩ : ∃ Ex : List EntX, Ex = [] := ⟨_, rfl⟩
            rw [← hL9] at P9 R9
            rw [← hEx] at P9 R9
            clear hs9 hp9 P6 P4 HO4 HO HR Hobx b2 g2 hL9 hEx
            obtain ⟨vT, PT⟩ : ∃ vT, Hid (PS W w9 b bx n la L9 X9 la vT Ex) := ⟨_, P9⟩
            clear P9
            have hvs := (PT.out.rf.now).1
            obtain ⟨va, vc, rfl⟩ := hvs.sl
            obtain ⟨N, hN⟩ : ∃ N, (entsX Ex).length = N := ⟨_, rfl⟩
            have hNL : L9.length = N := by rw [← hN, entsX_len, R9.out.eLen]
            have HNL := hide hNL
            rw [hN] at hvs PT
            try rw [hN]
            have HN := hide hN
            have HVs := hide hvs
            clear hN hNL hvs
            go_wp2_with fail
            refine (open_at w9 b n la L9 X9 PT.out.tw.at_ (by have := R9.out.len; omega)).mono ?_
            rintro e w10 ⟨⟨oa, on, oc⟩, rfl, hio, hk10⟩
            obtain rfl : on = N := by rw [← HNL.out]; have := hio.1; rw [List.length_map] at this; exact this
            have HIo := hide hio.2
            have HK10 := hide hk10
            have d2 : w10.cell? ⟨bx, 2, none⟩ = some (.slice va on vc) := (hk10.blk PT.out.blk (fun h => h)).cell 2
            have hon8 : on ≤ 8 := by rw [← HNL.out]; exact R9.out.len
            have hnn : ((on : Int) != (on : Int)) = false := by simp
            have hee : ((0 : Int) != (0 : Int)) = false := by simp
            clear hio hk10
            go_wp2
            clear d2
            go_loopw [235] (fun i wq => ∃ j : Nat, i = .int .i64 j ∧ j ≤ on ∧ Hid (Kept (fun _ => False) w10 wq)) (fun i _ => on - (intOf i).toNat)
            case atStart => exact ⟨0, rfl, Nat.zero_le _, hide (Kept.refl _ _)⟩
            case round =>
              obtain ⟨j, rfl, hj, HKj⟩ := hrel
              by_cases hjt : j < on
              · have hjL : j < L9.length := by rw [HNL.out]; exact hjt
                have hjE : j < (entsX Ex).length := by rw [HN.out]; exact hjt
                obtain ⟨og, rfl, hcs⟩ := HIo.out (by rw [List.length_map]; omega)
                obtain ⟨vg, vo, rfl, hcv⟩ := HVs.out.get hjE
                have hEL : (entsX Ex)[j].1 = L9[j].1 := by
                  have h1 : ((entsX Ex).map (·.1))[j]? = (L9.map (·.1))[j]? := by
                    rw [← R9.out.rows]
                    unfold entsX rowsX mapK
                    rw [List.map_map, List.map_map]
                    rfl
                  rw [List.getElem?_map, List.getElem?_map, List.getElem?_eq_getElem hjE, List.getElem?_eq_getElem hjL] at h1
                  simpa using h1
                obtain ⟨hj0, hh0⟩ : ∃ h, L9[j].1 = h := ⟨_, rfl⟩
                have HCi : Hid (w10.cell? ⟨og, 0 + j, none⟩ = some (.int .i64 hj0)) := hide (by
                  have := hcs j (.int .i64 L9[j].1) (by rw [List.getElem?_map, List.getElem?_map, List.getElem?_eq_getElem hjL]; rfl)
                  rw [hh0] at this
                  exact this)
                have HCx : Hid (w10.cell? ⟨vg, vo + j * 2, none⟩ = some (.int .i64 hj0)) := hide (by
                  have := (HK10.out.cells hcv (fun h => h)) 0 _ rfl
                  rw [hEL, hh0] at this
                  simpa using this)
                clear hcs hcv hEL hh0 hjE hjL
                go_wp2
                refine hold_frame (p := fun fr => Code.wp Try.prog _ _ fr _) ?_
                intro fr hfr
                have e7 : fr.eval (.tmp 7) = .pointer (some ⟨bx, 0, none⟩) := by rw [hfr.out]; rfl
                have e31 : fr.eval (.tmp 31) = .slice (some ⟨og, 0, none⟩) on oc := by rw [hfr.out]; rfl
                have e32 : fr.eval (.tmp 32) = .int .i64 ((j : Nat) : Int) := by rw [hfr.out]; rfl
                have hts : fr.tmps.size = 251 := by rw [hfr.out]; rfl
                refine region_S0 99 Try.mixed ?_
                intro w0 hkw hheap
                have hP0 := (PT.out.same (HK10.out.trans (HKj.out.trans hkw (fun _ _ h => h)) (fun _ _ h => h)))
                have hbx0 := hP0.blk
                have hci := Kept.cell_ofP (HKj.out.trans hkw (fun _ _ h => h)) HCi.out
                have hcx := Kept.cell_ofP (HKj.out.trans hkw (fun _ _ h => h)) HCx.out
                have hS0 : Kept (fun _ => False) w0 w0 := Kept.refl (fun _ => False) w0
                refine ⟨Kept (fun _ => False) w0, ?_⟩
                refine tkS 0 238 (v := .slice (some ⟨og, 0, none⟩) on oc) hS0 rfl rfl (by kernel_rfl) (by kernel_rfl) (by kernel_rfl) (by kernel_rfl) (wanted_none rfl) (fun _ _ _ h => h) (fun U hU => r_move (by simp [eval_put_ne, eval_put_eq, size_put, hts, e31])) ?_
                refine tkS 1 239 (v := .int .i64 ((j : Nat) : Int)) hS0 rfl rfl (by kernel_rfl) (by kernel_rfl) (by kernel_rfl) (by kernel_rfl) (wanted_none rfl) (fun _ _ _ h => h) (fun U hU => r_move (by simp [eval_put_ne, eval_put_eq, size_put, hts, e32])) ?_
                refine tkS 2 240 (v := .pointer (some ⟨og, 0 + j, none⟩)) hS0 rfl rfl (by kernel_rfl) (by kernel_rfl) (by kernel_rfl) (by kernel_rfl) (wanted_none rfl) (fun _ _ _ h => h) (fun U hU => r_ixI (b := og) (off := 0) (len := on) (cap := oc) (kk := .i64) j (by simp [eval_put_ne, eval_put_eq, size_put, hts]) (by simp [eval_put_ne, eval_put_eq, size_put, hts]) hjt) ?_
                refine tkS 3 241 (v := .int .i64 hj0) hS0 rfl rfl (by kernel_rfl) (by kernel_rfl) (by kernel_rfl) (by kernel_rfl) (wanted_none rfl) (fun _ _ _ h => h) (fun U hU => r_ldI (by simp [eval_put_ne, eval_put_eq, size_put, hts]) (hU.cell_ofP hci)) ?_
                refine tkS 4 242 (v := .pointer (some ⟨bx, 2, none⟩)) hS0 rfl rfl (by kernel_rfl) (by kernel_rfl) (by kernel_rfl) (by kernel_rfl) (wanted_none rfl) (fun _ _ _ h => h) (fun U hU => r_fK2 (by simp [eval_put_ne, eval_put_eq, size_put, hts, e7])) ?_
                refine tkS 5 243 (v := .slice (some ⟨vg, vo, none⟩) on vc) hS0 rfl rfl (by kernel_rfl) (by kernel_rfl) (by kernel_rfl) (by kernel_rfl) (wanted_none rfl) (fun _ _ _ h => h) (fun U hU => r_ldTS (by simp [eval_put_ne, eval_put_eq, size_put, hts]) ((hU.blk hbx0 (fun h => h)).cell 2)) ?_
                refine tkS 6 244 (v := .int .i64 ((j : Nat) : Int)) hS0 rfl rfl (by kernel_rfl) (by kernel_rfl) (by kernel_rfl) (by kernel_rfl) (wanted_none rfl) (fun _ _ _ h => h) (fun U hU => r_move (by simp [eval_put_ne, eval_put_eq, size_put, hts, e32])) ?_
                refine tkS 7 245 (v := .pointer (some ⟨vg, vo + j * 2, none⟩)) hS0 rfl rfl (by kernel_rfl) (by kernel_rfl) (by kernel_rfl) (by kernel_rfl) (wanted_none rfl) (fun _ _ _ h => h) (fun U hU => r_ixT (b := vg) (off := vo) (len := on) (cap := vc) (kk := .i64) j (by simp [eval_put_ne, eval_put_eq, size_put, hts]) (by simp [eval_put_ne, eval_put_eq, size_put, hts]) hjt) ?_
                refine tkS 8 246 (v := .pointer (some ⟨vg, vo + j * 2, none⟩)) hS0 rfl rfl (by kernel_rfl) (by kernel_rfl) (by kernel_rfl) (by kernel_rfl) (wanted_none rfl) (fun _ _ _ h => h) (fun U hU => r_fX0 (by simp [eval_put_ne, eval_put_eq, size_put, hts])) ?_
                refine tkS 9 247 (v := .int .i64 hj0) hS0 rfl rfl (by kernel_rfl) (by kernel_rfl) (by kernel_rfl) (by kernel_rfl) (wanted_none rfl) (fun _ _ _ h => h) (fun U hU => r_ldI (by simp [eval_put_ne, eval_put_eq, size_put, hts]) (hU.cell_ofP hcx)) ?_
                refine tkS 10 248 (v := .bool false) hS0 rfl rfl (by kernel_rfl) (by kernel_rfl) (by kernel_rfl) (by kernel_rfl) (wanted_none rfl) (fun _ _ _ h => h) (fun U hU => (r_neqI (p := hj0) (q := hj0) (by simp [eval_put_ne, eval_put_eq, size_put, hts]) (by simp [eval_put_ne, eval_put_eq, size_put, hts])).trans (by simp)) ?_
                refine doneS (by kernel_rfl) ?_
                have HKj8 := hide (HKj.out.trans hkw (fun _ _ h => h))
                clear hP0 hbx0 hci hcx hS0 hkw hheap
                rw [hfr.out]
                clear hfr e7 e31 e32 hts
                simp only [put_lit, put_none, List.set_cons_succ, List.set_cons_zero]
                go_wp2
                go_roundw
                case rel => exact ⟨j + 1, by simp, by omega, HKj8⟩
                case measure => simp [intOf]; omega
              · obtain rfl : on = j := by omega
                have hP := hide (PT.out.same (HK10.out.trans HKj.out (fun _ _ h => h)))
                go_wp2
                go_roundw
                case rel => exact ⟨k + 1, la, L9, X9, _, Ex, by simp, by omega, by omega, hP, R9⟩
                case measure => simp [intOf]; omega
    · obtain rfl : m = k := by omega
      go_wp2
      go_ret
      exact ⟨rfl, HS.out.tw.kept⟩
end Go.Proofs.Ytclfklcboigifaa
