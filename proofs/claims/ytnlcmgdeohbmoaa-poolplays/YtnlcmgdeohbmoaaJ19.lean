/-
  The types of the translation that the walks of package dev meet, as closed facts.
-/
import Derived.Test.YtnlcmgdeohbmoaaRows
import Derived.Test.YtnlcmgdeohbmoaaJ01
namespace Go.Proofs.Ytnlcmgdeohbmoaa.D
open Go.RowKit
set_option linter.unusedSimpArgs false
set_option linter.unusedVariables false
set_option maxRecDepth 100000

theorem Try.info5 : (Try.prog.info? 5).map (fun i => (i.zero, i.size, i.bytes)) = some (some (.int .u8 0), 1, 1) := by kernel_rfl
theorem Try.info129 : (Try.prog.info? 129).map (fun i => (i.zero, i.size, i.bytes)) = some (some (.agg (List.replicate 64 (.int .u8 0)).toArray), 64, 64) := by kernel_rfl
theorem Try.info131 : (Try.prog.info? 131).map (fun i => (i.zero, i.size, i.bytes)) = some (some (.agg (.int .i64 0 :: List.replicate 64 (.int .u8 0)).toArray), 65, 72) := by kernel_rfl
theorem Try.info78 : (Try.prog.info? 78).map (fun i => (i.zero, i.size, i.bytes)) = some (some (.agg (List.replicate 64 (.int .u8 0)).toArray), 64, 64) := by kernel_rfl
theorem Try.agg129 : aggSize Try.prog 129 64 := by
  obtain ⟨i0, hi, _, hs, _⟩ := info_parts Try.info129
  exact ⟨⟨i0, hi, hs⟩, _, Try.underlying129, .inl ⟨_, _, rfl⟩⟩
theorem Try.agg78 : aggSize Try.prog 78 64 := by
  obtain ⟨i0, hi, _, hs, _⟩ := info_parts Try.info78
  exact ⟨⟨i0, hi, hs⟩, _, Try.underlying78, .inl ⟨_, _, rfl⟩⟩
theorem Try.agg131 : aggSize Try.prog 131 65 := by
  obtain ⟨i0, hi, _, hs, _⟩ := info_parts Try.info131
  exact ⟨⟨i0, hi, hs⟩, _, Try.underlying131, .inr ⟨_, rfl⟩⟩
theorem Try.mixed : Try.prog.follows .mixedOrders = true := by kernel_rfl

end Go.Proofs.Ytnlcmgdeohbmoaa.D

/-
  dev.join: the bytes of the sectors, in new memory.
-/
namespace Go.Proofs.Ytnlcmgdeohbmoaa.D
open Go.RowKit
set_option linter.unusedSimpArgs false
set_option linter.unusedVariables false
set_option maxRecDepth 100000

/-- A byte's cell. -/
def isByte (v : Value) : Prop := ∃ n : Int, v = .int .u8 n ∧ 0 ≤ n ∧ n < 256
theorem isByte.one {v : Value} (h : isByte v) : v.oneCell' = true := by obtain ⟨n, rfl, _⟩ := h; rfl
theorem isByte.zero : isByte (.int .u8 0) := ⟨0, rfl, by decide, by decide⟩

theorem put_step (L : List Value) (z : Value) (n k : Nat) (hk : k < n) (hl : L.length = 64 * n) :
    put (L.take (64 * k) ++ List.replicate (64 * (n - k)) z) (k * 64) ((L.drop (k * 64)).take 64) = L.take (64 * (k + 1)) ++ List.replicate (64 * (n - (k + 1))) z := by
  have e2 : ((L.drop (64 * k)).take 64).length = 64 := by simp; omega
  have e3 : (L.take (64 * k)).length = 64 * k := by simp; omega
  have e4 : L.take (64 * (k + 1)) = L.take (64 * k) ++ (L.drop (64 * k)).take 64 := by
    rw [Nat.mul_add, List.take_add]
  rw [e4]
  unfold put
  rw [Nat.mul_comm k 64, e2, List.take_left' e3, List.drop_append, e3, List.drop_eq_nil_of_le (show (List.take (64 * k) L).length ≤ 64 * k + 64 by omega), List.nil_append, List.drop_replicate]
  congr 2
  omega

set_option maxHeartbeats 1000000 in
theorem join_at (w : World) (bs n cap : Nat) (L : List Value) (hl : L.length = 64 * n) (hn : n ≤ 4096) (hL : Blk w bs L 129) (hB : ∀ v ∈ L, isByte v) :
    Calls Try.prog 48 #[.slice (some ⟨bs, 0, none⟩) n cap] w fun e w' => e = .returned (.slice (some ⟨w.heap.size, 0, none⟩) (n * 64) (n * 64)) ∧ Blk w' w.heap.size L 5 ∧ Kept (fun _ => False) w w' := by
  obtain ⟨i5, hi5, hz5, hs5, hb5⟩ := info_parts Try.info5
  have Hi5 := hide hi5
  have Hz5 := hide hz5
  have Hs5 := hide hs5
  have Hb5 := hide hb5
  have HL := hide hl
  obtain ⟨i70, hi70, hz70, hs70, hb70⟩ := info_parts Try.info129
  have Hi70 := hide hi70
  have Hz70 := hide hz70
  have HB := hide hB
  have hlt0 := hL.lt
  clear hi5 hz5 hs5 hb5 hl hi70 hz70 hs70 hb70 hB
  go_enter Try.func48, Try.ntmps48
  go_wp2_with ((with_reducible refine aw_make (n := n * 64) 1 (by decide) Try.underlying41 Hi5.out Hz5.out rfl Hs5.out rfl rfl (by rw [Hb5.out]; omega) (by unfold maxLen; omega) ?_); intro w1 hw1 hk1 hz1)
  have Hz1 := hide hz1
  clear hz1
  go_loopw [12] (fun i wr => ∃ k : Nat, k ≤ n ∧ i = .int .i64 k ∧ Kept (fun _ => False) w wr ∧ Blk wr w.heap.size (L.take (64 * k) ++ List.replicate (64 * (n - k)) (.int .u8 0)) 5) (fun i _ => n - (intOf i).toNat)
  case atStart =>
    refine ⟨0, Nat.zero_le _, rfl, hk1, ?_⟩
    have := hw1
    simpa [Nat.mul_comm] using this
  case round =>
    obtain ⟨k, hk, rfl, hkept, hg⟩ := hrel
    clear hw1 hk1
    by_cases hlt : k < n
    · have hbs := hkept.blk hL (fun h => h)
      have hsz := hkept.size
      go_wp2_with (first
        | ((with_reducible refine aw_load Try.agg129 rfl hbs (by rw [HL.out]; omega) rfl ?_))
        | ((with_reducible refine aw_alloc Hi70.out Hz70.out ?_); intro w2 hw2 hk2 hz2; have Hz2 := hide hz2; clear hz2)
        | ((with_reducible refine aw_store Try.agg129 rfl rfl (by rw [List.length_take, List.length_drop, HL.out]; omega) (fun v hv => (HB.out v (List.mem_of_mem_drop (List.mem_of_mem_take hv))).one) hw2 (by simp [Value.cells]) ?_); intro w3 hw3 hk3 hz3; have Hz3 := hide hz3; clear hz3))
      refine region_tail 5 Try.mixed (by kernel_rfl) ?_
      intro w4 hk4 hz4
      have Hz4 := hide hz4
      clear hz4
      simp only [List.take_succ_cons, List.take_zero, List.drop_succ_cons, List.drop_zero]
      have hw : IntKind.i64.wrap (↑k * 64) = ((k * 64 : Nat) : Int) := by rw [IntKind.wrap_i64]; omega
      still_step
      still_step
      still_step
      clear hw
      refine st_slice_lo Try.underlying41 Hi5.out 1 Hs5.out rfl (k * 64) rfl (by omega) (by omega) ?_
      still_step
      refine wpStill_nil ?_
      have hgne : ¬ w.heap.size = wr.heap.size := by have := hg.lt; omega
      have hM : (List.take 64 (List.drop (k * 64) L)).length = 64 := by rw [List.length_take, List.length_drop, HL.out]; omega
      rw [put_whole _ _ (by rw [hM]; simp [Value.cells])] at hw3
      refine aw_copy Try.underlying41 Hi5.out 1 Hs5.out rfl rfl 64 (by omega) (hk4.blk (hk3.blk (hk2.blk hg (fun h => h)) hgne) (fun h => h)) (hk4.blk hw3 (fun h => h)) (by rw [hM]; decide) (by simp [HL.out]; omega) (fun v hv => (HB.out v (List.mem_of_mem_drop (List.mem_of_mem_take hv))).one) ?_
      intro w5 hw5 hk5 _
      have hg5 : Blk w5 w.heap.size (L.take (64 * (k + 1)) ++ List.replicate (64 * (n - (k + 1))) (.int .u8 0)) 5 := by
        rw [← put_step L _ n k hlt HL.out]
        simpa [List.take_take] using hw5
      have hkk : Kept (fun _ => False) w w5 := by
        refine ((((hkept.trans hk2 ?_).trans hk3 ?_).trans hk4 ?_).trans hk5 ?_)
        all_goals (intro i hi h; first | exact h | omega)
      clear hw5 hk5 hk4 hk3 hk2 hw3 hw2 hg hkept hbs hM
      go_wp2
      go_roundw
      case rel => exact ⟨k + 1, by omega, by go_num, hkk, hg5⟩
      case measure => simp [intOf]; omega
    · obtain rfl : n = k := by omega
      go_wp2
      go_ret
      refine ⟨rfl, ?_, hkept⟩
      have := hg
      rw [List.take_of_length_le (by rw [HL.out]; omega)] at this
      simpa using this
end Go.Proofs.Ytnlcmgdeohbmoaa.D
