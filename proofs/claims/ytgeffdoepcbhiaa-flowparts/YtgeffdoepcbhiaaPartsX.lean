/-
  FlowParts, walked.
-/
import Derived.Test.YtgeffdoepcbhiaaParts0
import Derived.Test.YtgeffdoepcbhiaaKeepI
namespace Go.Proofs.Ytgeffdoepcbhiaa
open Go.RowKit Go.Shelf
set_option linter.unusedSimpArgs false
set_option linter.unusedVariables false
attribute [local go_sem] Oper.semAt_some

set_option maxRecDepth 100000 in
set_option maxHeartbeats 1000000 in
theorem parts_out (w : World) (ao : Option Addr) (len cap : Nat) (n : Int) (hl : len ≤ 4611686018427387903) (h : 200 < len) : Calls Try.prog 3 #[.slice ao len cap, .int .u8 n] w fun e w' => e = .returned (.bool true) ∧ Kept (fun _ => False) w w' := by
  go_enter Try.func3, Try.ntmps3
  go_wp2_with fail
  refine (first_law w).mono ?_
  rintro e w1 ⟨rfl, hk1⟩
  go_wp2
  go_ret
  exact ⟨rfl, hk1⟩

set_option maxRecDepth 100000 in
set_option maxHeartbeats 4000000 in
theorem parts_in (w : World) (v : Value) (xs : List I64) (n : Int) (hv : SrcV w v (xs.map DI)) (hl : xs.length ≤ 200) (hn : 0 ≤ n ∧ n ≤ 255) : Calls Try.prog 3 #[v, .int .u8 n] w fun e w' => e = .returned (.bool true) ∧ Kept (fun _ => False) w w' := by
  have HV := hide hv
  obtain ⟨ao, cap, rfl, hcap, hsrc, hnil⟩ := hv
  obtain ⟨i3, hi3, hz3, hs3, hb3⟩ := info_parts Try.info3
  have Hi3 := hide hi3
  have Hz3 := hide hz3
  have Hs3 := hide hs3
  obtain ⟨len, hlen⟩ : ∃ len, len = (xs.map DI).length := ⟨_, rfl⟩
  rw [← hlen] at HV ⊢
  have hll : len = xs.length := by rw [hlen, List.length_map]
  have Hll := hide hll
  have hl2 : len ≤ 200 := by omega
  have hones := hide (DI_ones xs)
  have hml : Hid ((xs.map DI).length ≤ 1000000) := hide (by rw [List.length_map]; omega)
  have hxl : Hid (xs.length ≤ 1000000) := hide (by omega)
  clear hcap hsrc hnil hi3 hz3 hs3 hb3 hlen hll hl
  go_enter Try.func3, Try.ntmps3
  go_wp2_with fail
  refine (first_law w).mono ?_
  rintro e w1 ⟨rfl, hk1⟩
  have HV1 := hide (HV.out.kept hk1 (fun _ _ h => h))
  have Hk1 := hide hk1
  clear hk1
  -- odd
  go_wp2_with fail
  refine (of_atI w1 _ _ HV1.out hones.out hml.out).mono ?_
  rintro e w2 ⟨b2, v2, rfl, h1, h2, h3, h4, h5⟩
  have HS2 := hide (of_okI (D := DI) (xs := xs) h1 (by rw [List.length_map] at h2; exact h2) (fun x => (DI_one x).1) hxl.out)
  have HV2 := hide (HV1.out.kept h3 (fun _ _ h => h))
  have Hk2 := hide (Hk1.out.trans h3 (fun _ _ h => h))
  clear h1 h2 h3 h4 h5 HV1 Hk1
  go_wp2_with fail
  refine (keep_atI w2 _ (.func (.func 7) #[] #[]) HS2.out.cells ⟨_, _, rfl⟩).mono ?_
  rintro e w3 ⟨bs3, bi3, rfl, h1, h2, h3, h4, h5⟩
  have HS3 := hide (keep_okI (p := pO) (HS2.out.kept h3 (fun _ h => h.elim)) ⟨_, _, rfl⟩ (f7_ok w3) (fun _ h => h.elim) h1 h2 ⟨fun h => h, fun h => h⟩)
  have HV3 := hide (HV2.out.kept h3 (fun _ _ h => h))
  have Hk3 := hide (Hk2.out.trans h3 (fun _ _ h => h))
  clear h1 h2 h3 h4 h5 HV2 Hk2 HS2
  go_wp2_with fail
  refine (list_atI HS3.out (encD_one DI_one) (Nat.le_trans (List.length_filter_le _ _) hxl.out)).mono ?_
  rintro e w4 ⟨kv4, vs4, G4, rfl, h1, h2, h3, h4, h5, h6⟩
  obtain ⟨ao4, cc4, rfl⟩ := ownsRow_slice h1
  obtain ⟨np, hnp⟩ : ∃ np, np = (List.filter pO xs).length := ⟨_, rfl⟩
  rw [← hnp]
  have Hnp := hide hnp
  clear hnp
  have HV4 := hide (HV3.out.kept h3 (fun _ _ h => h))
  have Hk4 := hide (Hk3.out.trans h3 (fun _ _ h => h))
  clear h1 h2 h3 h4 h5 h6 HV3 Hk3 HS3
  -- even
  go_wp2_with fail
  refine (of_atI w4 _ _ HV4.out hones.out hml.out).mono ?_
  rintro e w5 ⟨b5, v5, rfl, h1, h2, h3, h4, h5⟩
  have HS5 := hide (of_okI (D := DI) (xs := xs) h1 (by rw [List.length_map] at h2; exact h2) (fun x => (DI_one x).1) hxl.out)
  have HV5 := hide (HV4.out.kept h3 (fun _ _ h => h))
  have Hk5 := hide (Hk4.out.trans h3 (fun _ _ h => h))
  clear h1 h2 h3 h4 h5 HV4 Hk4
  go_wp2_with fail
  refine (keep_atI w5 _ (.func (.func 8) #[] #[]) HS5.out.cells ⟨_, _, rfl⟩).mono ?_
  rintro e w6 ⟨bs6, bi6, rfl, h1, h2, h3, h4, h5⟩
  have HS6 := hide (keep_okI (p := pE) (HS5.out.kept h3 (fun _ h => h.elim)) ⟨_, _, rfl⟩ (f8_ok w6) (fun _ h => h.elim) h1 h2 ⟨fun h => h, fun h => h⟩)
  have HV6 := hide (HV5.out.kept h3 (fun _ _ h => h))
  have Hk6 := hide (Hk5.out.trans h3 (fun _ _ h => h))
  clear h1 h2 h3 h4 h5 HV5 Hk5 HS5
  go_wp2_with fail
  refine (list_atI HS6.out (encD_one DI_one) (Nat.le_trans (List.length_filter_le _ _) hxl.out)).mono ?_
  rintro e w7 ⟨kv7, vs7, G7, rfl, h1, h2, h3, h4, h5, h6⟩
  obtain ⟨ao7, cc7, rfl⟩ := ownsRow_slice h1
  obtain ⟨nq, hnq⟩ : ∃ nq, nq = (List.filter pE xs).length := ⟨_, rfl⟩
  rw [← hnq]
  have hnn : np + nq = len := by rw [hnq, Hnp.out, Hll.out]; exact parts_len xs
  clear hnq
  have HV7 := hide (HV6.out.kept h3 (fun _ _ h => h))
  have Hk7 := hide (Hk6.out.trans h3 (fun _ _ h => h))
  clear h1 h2 h3 h4 h5 h6 HV6 Hk6 HS6
  -- runs
  go_wp2_with fail
  refine (of_atI w7 _ _ HV7.out hones.out hml.out).mono ?_
  rintro e w8 ⟨b8, v8, rfl, h1, h2, h3, h4, h5⟩
  have HS8 := hide (of_okI (D := DI) (xs := xs) h1 (by rw [List.length_map] at h2; exact h2) (fun x => (DI_one x).1) hxl.out)
  have HV8 := hide (HV7.out.kept h3 (fun _ _ h => h))
  have Hk8 := hide (Hk7.out.trans h3 (fun _ _ h => h))
  clear h1 h2 h3 h4 h5 HV7 Hk7
  obtain ⟨m, hm⟩ : ∃ m : Nat, (m : Int) = 1 + n := ⟨(1 + n).toNat, by omega⟩
  have hm1 : 1 ≤ m := by omega
  have hm2 : m ≤ 9223372036854775807 := by omega
  go_wp2_with fail
  refine (runs_atI w8 _ (1 + n) (by omega) HS8.out.cells).mono ?_
  rintro e w9 ⟨bn9, bs9, rfl, h1, h2, h3, h4, h5⟩
  rw [← hm] at h1
  have HS9 := hide (runs_okI (D := DI) DI_one hm1 hm2 hxl.out (HS8.out.kept h3 (fun _ h => h.elim)) h1 h2 ⟨fun h => h, fun h => h⟩)
  have HV9 := hide (HV8.out.kept h3 (fun _ _ h => h))
  have Hk9 := hide (Hk8.out.trans h3 (fun _ _ h => h))
  have HX9 := hide HS9.out.lt
  clear h1 h2 h3 h4 h5 HV8 Hk8 HS8 hm
  go_wp2_with (with_reducible refine stop_bs 22 ?_)
  refine hide ?_
  refine wpList_run rfl (r_bs0 Try.underlying22 Hi3.out Hz3.out Hs3.out) ?_
  have hb1 := Blk.new w9 [] 3
  have hk1 : Kept (fun _ => False) w9 (w9.alloc (.cells #[] 3)) := Kept.alloc _ _ _
  rw [show (([] : List Value).toArray) = #[] from rfl] at hb1
  generalize w9.alloc (.cells #[] 3) = w10 at hb1 hk1
  have hown : w10.ownsRow 0 3 1 (.slice (some ⟨w9.heap.size, 0, none⟩) 0 0) 0 [] := ownsRow_of (C := []) (by simpa using hb1) rfl (Nat.le_refl _) (by unfold maxLen; omega) rfl
  have HO := hide hown
  have HS10 := hide (HS9.out.kept hk1 (fun _ h => h.elim))
  have HV10 := hide (HV9.out.kept hk1 (fun _ _ h => h))
  have Hk10 := hide (Hk9.out.trans hk1 (fun _ _ h => h))
  have Hw : Hid (w.heap.size ≤ w9.heap.size) := hide Hk9.out.size
  clear hb1 hk1 hown HS9 HV9 Hk9
  simp only [put_lit, List.set_cons_succ, List.set_cons_zero]
  go_wp2_with fail
  refine (fold_atL HS10.out (K := KJ) (u0 := .slice (some ⟨w9.heap.size, 0, none⟩) 0 0) (F0 := fun k => (Value.slice (some ⟨w9.heap.size, 0, none⟩) 0 0).ownBlock = some k) ⟨_, _, rfl⟩ KJ.stab (by
    rintro pre u F W ⟨h, _⟩
    obtain ⟨a, c, rfl⟩ := ownsRow_slice h
    exact ⟨rfl, rfl⟩) (f14_ok _ (by rw [runsOf_flat]; exact hxl.out) _ _) (fun k h => by
    simp [Value.ownBlock] at h
    subst h
    exact ⟨fun hx => by have := HX9.out _ (.inl hx); omega, fun hx => hx⟩) ⟨HO.out, rfl⟩).mono ?_
  rintro e w11 ⟨u, Fu, rfl, ⟨ho, _⟩, h3, _, _⟩
  have hs11 : SrcV w11 u (xs.map DI) := by
    have := ownsRow_src ho
    rwa [runsOf_flat] at this
  obtain ⟨aou, ccu, rfl⟩ := ownsRow_slice ho
  rw [runsOf_flat, ← Hll.out] at hs11 ⊢
  have hkA : Kept (fun _ => False) w w11 := Hk10.out.trans h3 (fun k hk h => by
    rcases h with h | h
    · simp [Value.ownBlock] at h
      have := Hw.out
      omega
    · exact h)
  have HSame := hide (same_at w11 _ _ xs hs11 (HV.out.kept hkA (fun _ _ h => h)) hxl.out)
  have HkA := hide hkA
  clear hs11 ho h3 hkA HV10 Hk10 HS10
  go_wp2_with fail
  refine HSame.out.mono ?_
  rintro e w12 ⟨rfl, hk12⟩
  have Hk12 := hide hk12
  clear hk12
  go_wp2
  go_ret
  exact ⟨rfl, HkA.out.trans Hk12.out (fun _ _ h => h)⟩
end Go.Proofs.Ytgeffdoepcbhiaa
