/-
  The document's own answer: With.
-/
import Derived.Test.YtlpjhgcafkdhdaaIRef
namespace Go.Proofs.Ytlpjhgcafkdhdaa
open Go.RowKit Go.Shelf
set_option linter.unusedSimpArgs false
set_option linter.unusedVariables false
set_option maxRecDepth 100000

set_option maxRecDepth 100000 in
set_option maxHeartbeats 4000000 in
theorem rwith_at (w : World) (d : List Nat) (n : Nat) (hd : d.length = 64 * n) (hdl : ∀ x ∈ d, x < 256) (hn : n ≤ 64) (v : Value) (l : List Wv) (hl : WsAt w v l) :
    Calls Try.prog 15 #[.string (strN d), v] w fun e w' => ∃ S : List Nat, e = .returned (.tuple #[.string (strN S), .int .i64 (withE n (l.map Wv.wr))]) ∧ (withE n (l.map Wv.wr) = 0 → S = withB d (l.map Wv.wr)) ∧ Kept (fun _ => False) w w' := by
  obtain ⟨ao, cap0, rfl⟩ := hl.slice
  have HL := hide hl
  have hmax := hl.2.2
  have HD := hide hd
  have HDl := hide hdl
  have HN := hide hn
  obtain ⟨i0, hi0, hz0, hs0, hb0⟩ := info_parts Try.info53
  have Hi0 := hide hi0
  have Hz0 := hide hz0
  clear hl hi0 hz0 hs0 hb0 hd hdl hn
  go_enter Try.func15, Try.ntmps15
  go_wp2
  go_loopw [0, 12] (fun o i wr => ∃ k : Nat, i = .int .i64 k ∧ k ≤ l.length ∧ Hid (withE n ((l.map Wv.wr).take k) = 0) ∧ o = .string (strN (withB d ((l.map Wv.wr).take k))) ∧ Kept (fun _ => False) w wr)
    (fun o i _ => l.length - (intOf i).toNat)
  case atStart => exact ⟨0, rfl, Nat.zero_le _, hide rfl, rfl, Kept.refl _ _⟩
  case round =>
    obtain ⟨k, rfl, hk, HE, rfl, hkr⟩ := hrel
    obtain ⟨X, hX⟩ : ∃ X, X = withB d ((l.map Wv.wr).take k) := ⟨_, rfl⟩
    have HX := hide hX
    have hXl : X.length = 64 * n := by rw [hX]; exact withB_len HD.out HE.out
    have HXl := hide hXl
    have hXlt : ∀ x ∈ X, x < 256 := by
      rw [hX]
      refine withB_lt HDl.out (fun x hx => ?_)
      obtain ⟨y, hy, rfl⟩ := List.mem_map.1 (List.mem_of_mem_take hx)
      exact (HL.out.2.1 y hy).lt
    have HXlt := hide hXlt
    rw [← hX]
    clear hX hXl hXlt
    by_cases hlt : k < l.length
    · obtain ⟨ga, off, rfl, c0, c1, hsa, hna⟩ := (HL.out.kept hkr).get hlt
      have hlm : k < (l.map Wv.wr).length := by simpa using hlt
      have hstep := withE_step hlm HE.out
      rw [wr_get hlt] at hstep
      have HSTEP := hide hstep
      have HSA := hide hsa
      have HNA := hide hna
      obtain ⟨p, hp⟩ : ∃ p, p = l[k].blk := ⟨_, rfl⟩
      obtain ⟨⟨pa, pn, pc⟩, hs⟩ : ∃ s, s = l[k].s := ⟨_, rfl⟩
      have HP := hide hp
      have HS := hide hs
      rw [← hp] at c0
      rw [← hs] at c1
      simp only at c1
      have hpn : pn = l[k].B.length := by rw [← hna, ← hs]
      have HPN := hide hpn
      clear hstep hsa hna hp hs hpn
      by_cases hin : 0 ≤ p ∧ p < n
      · by_cases h64 : pn = 64
        · obtain ⟨m, rfl⟩ : ∃ m : Nat, p = m := ⟨p.toNat, by omega⟩
          have hmn : m < n := by omega
          have Hmn := hide hmn
          subst h64
          go_wp2_with (first
            | ((with_reducible refine aw_alloc (t := 53) (dst := some 7) Hi0.out Hz0.out ?_); intro w3 hw3 hk3 hz3; have Hz3 := hide hz3; clear hz3 c0 c1)
            | ((with_reducible refine aw_store (M := [.int .i64 (m : Int), .slice pa 64 pc]) Try.agg53 rfl rfl rfl (by simp [Value.oneCell']) hw3 (by simp [Value.cells]) ?_); intro w4 hw4 hk4 hz4; rw [put_whole _ _ (by simp [Value.cells])] at hw4; have HK34 := hide (hk3.trans hk4 (S := fun _ => False) (fun i hi h => by omega)); have HK4 := hide (hkr.trans HK34.out (fun _ _ h => h)); have e0 : w4.cell? ⟨wr.heap.size, 0, none⟩ = some (.int .i64 (m : Int)) := hw4.cell 0; have e1 : w4.cell? ⟨wr.heap.size, 1, none⟩ = some (.slice pa 64 pc) := hw4.cell 1; have HW4 := hide hw4; clear hz4 hw3 hk3 hk4 hw4)
            | (go_at_call 19; refine (rget_at _ X n HXl.out HN.out m true (by simpa using hin)).mono ?_; rintro e w5 ⟨rfl, rfl⟩))
          refine region_tail 16 Try.mixed (by kernel_rfl) ?_
          intro w5 hk5 hz5
          simp only [List.take_succ_cons, List.take_zero, List.drop_succ_cons, List.drop_zero]
          have f0 : w5.cell? ⟨wr.heap.size, 0, none⟩ = some (.int .i64 m) := (hk5.blk HW4.out (fun h => h)).cell 0
          have f1 : w5.cell? ⟨wr.heap.size, 1, none⟩ = some (.slice pa 64 pc) := (hk5.blk HW4.out (fun h => h)).cell 1
          have hkr5 : Kept (fun _ => False) wr w5 := HK34.out.trans hk5 (fun _ _ h => h)
          have hs5 := HSA.out.kept hkr5
          rw [← HS.out] at hs5
          have HS5 := hide hs5
          have hw1 : IntKind.i64.wrap (64 * (m : Int)) = ((64 * m : Nat) : Int) := by rw [IntKind.wrap_i64]; have := HN.out; omega
          have hw2 : IntKind.i64.wrap (64 * (m : Int) + 64) = ((64 * m + 64 : Nat) : Int) := by rw [IntKind.wrap_i64]; have := HN.out; omega
          have HK5 := hide (HK4.out.trans hk5 (fun _ _ h => h))
          clear e0 e1 hkr5 hk5 hz5 hkr hs5
          still_step
          still_step
          still_step
          still_step
          refine wpStill_run rfl (r_hi9 (B := X) (64 * m) (by have := HXl.out; have := Hmn.out; omega) rfl rfl) ?_
          still_step
          still_step
          refine wpStill_run rfl (r_strS rfl HS5.out) ?_
          refine wpStill_run rfl (r_add9 (A := X.take (64 * m)) (B := l[k].B) (by rw [List.length_take, ← HPN.out]; have := Hmn.out; have := HN.out; omega) rfl rfl) ?_
          still_step
          still_step
          still_step
          still_step
          still_step
          refine wpStill_run rfl (r_lo9 (B := X) (64 * m + 64) (by have := HXl.out; have := Hmn.out; omega) rfl rfl) ?_
          refine wpStill_run rfl (r_add9 (A := X.take (64 * m) ++ l[k].B) (B := X.drop (64 * m + 64)) (by have := HXl.out; simp only [List.length_append, List.length_take, List.length_drop, ← HPN.out]; have := Hmn.out; have := HN.out; omega) rfl rfl) ?_
          refine wpStill_nil ?_
          have hput : Hid (X.take (64 * m) ++ l[k].B ++ X.drop (64 * m + 64) = withB d ((l.map Wv.wr).take (k + 1))) := hide (by
            rw [withB_take1 hlm, wr_get hlt, ← HX.out]
            simp only
            rw [← HP.out, Int.toNat_natCast]
            rfl)
          rw [hput.out]
          have hke : Hid (withE n ((l.map Wv.wr).take (k + 1)) = 0) := hide (withE_take1 hlm HE.out (by rw [wr_get hlt]; simp only; rw [← HP.out]; exact hin) (by rw [wr_get hlt]; exact HPN.out.symm))
          clear hw1 hw2 f0 f1
          go_wp2
          go_roundw
          case rel => exact ⟨k + 1, by simp, by omega, hke, rfl, HK5.out⟩
          case measure => simp [intOf]; omega
        · go_wp2_with (first
            | ((with_reducible refine aw_alloc (t := 53) (dst := some 7) Hi0.out Hz0.out ?_); intro w3 hw3 hk3 hz3; have Hz3 := hide hz3; clear hz3 c0 c1)
            | ((with_reducible refine aw_store (M := [.int .i64 p, .slice pa pn pc]) Try.agg53 rfl rfl rfl (by simp [Value.oneCell']) hw3 (by simp [Value.cells]) ?_); intro w4 hw4 hk4 hz4; rw [put_whole _ _ (by simp [Value.cells])] at hw4; have HK4 := hide (hkr.trans (hk3.trans hk4 (S := fun _ => False) (fun i hi h => by omega)) (fun _ _ h => h)); have e0 : w4.cell? ⟨wr.heap.size, 0, none⟩ = some (.int .i64 p) := hw4.cell 0; have e1 : w4.cell? ⟨wr.heap.size, 1, none⟩ = some (.slice pa pn pc) := hw4.cell 1; clear hz4 hw3 hk3 hk4)
            | (go_at_call 19; refine (rget_at _ X n HXl.out HN.out p true (by simpa using hin)).mono ?_; rintro e w5 ⟨rfl, rfl⟩))
          go_ret2
          have he : withE n (l.map Wv.wr) = 42 := by rw [HSTEP.out, ← HP.out, if_neg (by simpa using hin), if_pos (by rw [← HPN.out]; exact h64)]
          exact ⟨[], by rw [he]; rfl, fun h => absurd (he.symm.trans h) (by decide), HK4.out⟩
      · go_wp2_with (first
          | ((with_reducible refine aw_alloc (t := 53) (dst := some 7) Hi0.out Hz0.out ?_); intro w3 hw3 hk3 hz3; have Hz3 := hide hz3; clear hz3 c0 c1)
          | ((with_reducible refine aw_store (M := [.int .i64 p, .slice pa pn pc]) Try.agg53 rfl rfl rfl (by simp [Value.oneCell']) hw3 (by simp [Value.cells]) ?_); intro w4 hw4 hk4 hz4; rw [put_whole _ _ (by simp [Value.cells])] at hw4; have HK4 := hide (hkr.trans (hk3.trans hk4 (S := fun _ => False) (fun i hi h => by omega)) (fun _ _ h => h)); have e0 : w4.cell? ⟨wr.heap.size, 0, none⟩ = some (.int .i64 p) := hw4.cell 0; have e1 : w4.cell? ⟨wr.heap.size, 1, none⟩ = some (.slice pa pn pc) := hw4.cell 1; clear hz4 hw3 hk3 hk4)
          | (go_at_call 19; refine (rget_at _ X n HXl.out HN.out p false (by simpa using hin)).mono ?_; rintro e w5 ⟨rfl, rfl⟩))
        go_ret2
        have he : withE n (l.map Wv.wr) = 41 := by rw [HSTEP.out, ← HP.out, if_pos hin]
        exact ⟨[], by rw [he]; rfl, fun h => absurd (he.symm.trans h) (by decide), HK4.out⟩
    · obtain rfl : k = l.length := by omega
      go_wp2
      go_ret2
      have htk : (l.map Wv.wr).take l.length = l.map Wv.wr := List.take_of_length_le (by simp)
      have he := HE.out
      rw [htk] at he
      refine ⟨X, by rw [he]; rfl, fun _ => by rw [HX.out, htk], hkr⟩
end Go.Proofs.Ytlpjhgcafkdhdaa
