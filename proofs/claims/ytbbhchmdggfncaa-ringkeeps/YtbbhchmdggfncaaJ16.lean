/-
  Entries of a log in memory; the record that stands at a place.
-/
import Derived.Test.YtbbhchmdggfncaaJ11
import Derived.Test.YtbbhchmdggfncaaJ14
import Derived.Test.YtbbhchmdggfncaaJ15
import Derived.Test.YtbbhchmdggfncaaRows
import Derived.Test.YtbbhchmdggfncaaJ01
namespace Go.Proofs.Ytbbhchmdggfncaa
open Go.RowKit Go.Shelf
set_option linter.unusedSimpArgs false
set_option linter.unusedVariables false
set_option maxRecDepth 100000

theorem Try.info58 : (Try.prog.info? 58).map (fun i => (i.zero, i.size, i.bytes)) = some (some (.agg #[.int .i64 0, .int .i64 0, .int .i64 0, .int .i64 0, .int .i64 0, .int .i64 0, .slice none 0 0]), 7, 72) := by kernel_rfl
theorem Try.agg58 : aggSize Try.prog 58 7 := by
  obtain ⟨i0, hi, _, hs, _⟩ := info_parts Try.info58
  exact ⟨⟨i0, hi, hs⟩, _, Try.underlying58, .inr ⟨_, rfl⟩⟩
theorem Try.fields58 : ∃ fs, Try.prog.underlying 58 = some (.struct fs) ∧ fs.toList.mapM (fun f => (Try.prog.info? f.type).map fun i => (f.offset, i.size)) = some [(0, 1), (1, 1), (2, 1), (3, 4)] := ⟨_, Try.underlying58, by kernel_rfl⟩
theorem built58 (a b c k t n : Int) (so : Option Addr) (sn sc : Nat) : Try.prog.built 58 [(0, .int .i64 a), (1, .int .i64 b), (2, .int .i64 c), (3, .agg #[.int .i64 k, .int .i64 t, .int .i64 n, .slice so sn sc])] = some #[.int .i64 a, .int .i64 b, .int .i64 c, .int .i64 k, .int .i64 t, .int .i64 n, .slice so sn sc] := by
  obtain ⟨i, hi, hz, hs, hb⟩ := info_parts Try.info58
  obtain ⟨fs, hu, hp⟩ := Try.fields58
  simp only [Program.built, hi, hu, hz, hp]
  rw [fill_one _ _ 0 _ _ 0 [.int .i64 a] rfl rfl (by simp [Value.cells]), fill_one _ _ 1 _ _ 1 [.int .i64 b] rfl rfl (by simp [Value.cells, put]), fill_one _ _ 2 _ _ 2 [.int .i64 c] rfl rfl (by simp [Value.cells, put]), fill_one _ _ 3 _ _ 3 [.int .i64 k, .int .i64 t, .int .i64 n, .slice so sn sc] rfl rfl (by simp [Value.cells, put]), fill_nil]
  simp [Value.cells, put]
theorem built58_0 : Try.prog.built 58 [] = some #[.int .i64 0, .int .i64 0, .int .i64 0, .int .i64 0, .int .i64 0, .int .i64 0, .slice none 0 0] := by rfl
/-- What stands at a place, where B are the bytes from there on: its epoch, how many sectors it takes, the record. -/
def standsN (place : Int) (B : List Nat) : Option (Int × Int × Rc) :=
  if (gEnd (gRun (gStart place) (chunkN B))).2.2 ≠ 0 then none else
  match getR (gEnd (gRun (gStart place) (chunkN B))).1 with
  | none => none
  | some r => some ((getN (B.take 64)).1.ep, (gEnd (gRun (gStart place) (chunkN B))).2.1, r)
theorem gStep_len {s : GS} {b : List Nat} {r : GR} (h : gOk s) (hs : gStep s b = .inr r) : r.1.length ≤ 2621440 := by
  unfold gStep at hs
  split at hs
  · cases hs; simp
  · rename_i h1
    have hr := (rightN_iff _).1 (getN_right (by simpa using h1 : (getN b).2 = 0))
    split at hs
    · cases hs; simp
    · split at hs
      · cases hs
        obtain ⟨g1, g2, g3, g4, g5, g6, g7, g8⟩ := h
        simp only [List.length_append]
        omega
      · cases hs
theorem gRun_len : ∀ (xs : List (List Nat)) {s : GS} {r : GR}, gOk s → gRun s xs = .inr r → r.1.length ≤ 2621440
  | [], _, _, _, h => by simp [gRun] at h
  | b :: xs, s, r, hk, h => by
    simp only [gRun] at h
    cases hs : gStep s b with
    | inl s' => rw [hs] at h; exact gRun_len xs (gStep_ok hk hs) h
    | inr x => rw [hs] at h; simp only [Sum.inr.injEq] at h; rw [← h]; exact gStep_len hk hs
theorem gEnd_len {place : Int} {xs : List (List Nat)} (hp : 0 ≤ place ∧ place ≤ 4611686018427387903) : (gEnd (gRun (gStart place) xs)).1.length ≤ 2621440 := by
  cases h : gRun (gStart place) xs with
  | inl s => simp [gEnd]
  | inr r => exact gRun_len xs (by unfold gOk gStart; simp; omega) h
end Go.Proofs.Ytbbhchmdggfncaa


/-
  Records in sectors: what stands at a place, where all its sectors are there, where one is missing, and where an elder one is left. No condition beyond each law's own premises.
-/
namespace Go.Proofs.Ytbbhchmdggfncaa
set_option linter.unusedSimpArgs false
set_option linter.unusedVariables false
set_option maxRecDepth 100000

theorem sectorsOf_at {lsn : Int} {ep : Nat → Int} {body : List Nat} (i : Nat) (h : i < sectN body.length) : (sectorsOf lsn ep body)[i]? = some (putN (frameAt lsn (ep i) body i)) := by
  simp [sectorsOf, h]
theorem sectN_pos (n : Nat) : 1 ≤ sectN n := by unfold sectN; omega
theorem getN_first {p ep : Int} {body : List Nat} (h : LsnOk p body.length) (hep : 0 ≤ ep ∧ ep ≤ 4294967295) (hB : ∀ x ∈ body, x < 256) (rest : List (List Nat)) : (getN (((sectorsOf p (fun _ => ep) body) ++ rest).flatten.take 64)).1.ep = ep := by
  have h0 : 0 < sectN body.length := sectN_pos _
  have hs := sectorsOf_at (lsn := p) (ep := fun _ => ep) (body := body) 0 h0
  obtain ⟨x, l, hl⟩ : ∃ x l, sectorsOf p (fun _ => ep) body = x :: l := by
    cases hc : sectorsOf p (fun _ => ep) body with
    | nil => rw [hc] at hs; simp at hs
    | cons x l => exact ⟨x, l, rfl⟩
  rw [hl] at hs
  simp only [List.getElem?_cons_zero, Option.some.injEq] at hs
  rw [hl, List.cons_append, List.flatten_cons]
  have hx : x.length = 64 := by rw [hs]; exact putN_length _ (by simp [frameAt]; omega)
  rw [List.take_left' hx, hs, getN_put _ (frameAt_right h hep h0) (frameAt_B hB)]
  rfl
/-- All its sectors are there. -/
theorem stands_full {p ep : Int} {r : Rc} (hr : rightR r = true) (hB : ∀ x ∈ putR r, x < 256) (hep : 0 ≤ ep ∧ ep ≤ 4294967295) (hl : LsnOk p (putR r).length) {rest : List (List Nat)} (h64 : ∀ x ∈ rest, x.length = 64) (hg : getR (putR r) = some r) :
    standsN p ((sectorsOf p (fun _ => ep) (putR r)) ++ rest).flatten = some (ep, ((sectN (putR r).length : Nat) : Int), r) := by
  have hc : chunkN ((sectorsOf p (fun _ => ep) (putR r)) ++ rest).flatten = (sectorsOf p (fun _ => ep) (putR r)) ++ rest := by
    refine chunk_flat _ (fun x hx => ?_)
    rcases List.mem_append.1 hx with h | h
    · exact sectorsOf_64 x h
    · exact h64 x h
  have hrun : gRun (gStart p) (sectorsOf p (fun _ => ep) (putR r)) = .inr (putR r, (sectN (putR r).length : Nat), 0) := by
    rcases gather_spread (ep := fun _ => ep) hl (fun _ => hep) hB with h | ⟨_, i, _, hi⟩
    · exact h.1
    · exact absurd rfl hi
  have hrun2 := gRun_more _ rest _ hrun
  unfold standsN
  rw [hc, hrun2]
  refine (if_neg (show ¬ ((0 : Int) ≠ 0) by simp)).trans ?_
  show (match getR (putR r) with
    | none => none
    | some r1 => some ((getN (((sectorsOf p (fun _ => ep) (putR r)) ++ rest).flatten.take 64)).1.ep, ((sectN (putR r).length : Nat) : Int), r1)) = _
  rw [hg]
  show some _ = _
  rw [getN_first hl hep hB]
theorem gStep_bad {s : GS} {z : List Nat} (hz : (getN z).2 ≠ 0) : gStep s z = .inr ([], 0, (getN z).2) := by
  unfold gStep
  rw [if_pos hz]
/-- Some sectors of a record, not all. -/
theorem run_some {lsn e : Int} {body : List Nat} (h : LsnOk lsn body.length) (hep : 0 ≤ e ∧ e ≤ 4294967295) (hB : ∀ x ∈ body, x < 256) : ∀ (k j : Nat), j + k < sectN body.length → 1 ≤ j → gRun (gAt lsn e body j) ((List.range' j k).map fun i => putN (frameAt lsn e body i)) = .inl (gAt lsn e body (j + k))
  | 0, j, _, _ => rfl
  | k + 1, j, hjk, h1 => by
    rw [List.range'_succ, List.map_cons]
    simp only [gRun]
    rw [step_frame (ep := e) h hep hB (by omega) (gAt lsn e body j) ⟨rfl, rfl, rfl, fun _ => ⟨rfl, rfl⟩⟩, if_neg (by simp), if_neg (by omega)]
    simp only []
    rw [run_some h hep hB k (j + 1) (by omega) (by omega)]
    congr 1
    congr 1
    omega
theorem run_take {lsn e : Int} {body : List Nat} (h : LsnOk lsn body.length) (hep : 0 ≤ e ∧ e ≤ 4294967295) (hB : ∀ x ∈ body, x < 256) (j : Nat) (hj : j < sectN body.length) : ∃ s, gRun (gStart lsn) ((sectorsOf lsn (fun _ => e) body).take j) = .inl s := by
  have ht : (sectorsOf lsn (fun _ => e) body).take j = (List.range' 0 j).map fun i => putN (frameAt lsn e body i) := by
    unfold sectorsOf
    rw [← List.map_take, List.range_eq_range', List.take_range'_of_length_ge (by omega)]
  rw [ht]
  match j, hj with
  | 0, _ => exact ⟨_, rfl⟩
  | k + 1, hj =>
    rw [List.range'_succ, List.map_cons]
    simp only [gRun]
    have hs := step_frame (ep := 0) h hep hB (show 0 < sectN body.length by omega) (gStart lsn) ⟨by simp [gStart], by simp [gStart], rfl, fun h => absurd rfl h⟩
    rw [hs, if_neg (by simp), if_neg (by omega)]
    exact ⟨_, run_some h hep hB k 1 (by omega) (by omega)⟩
/-- One of its sectors is none. -/
theorem stands_hole {p ep : Int} {body : List Nat} (hB : ∀ x ∈ body, x < 256) (hep : 0 ≤ ep ∧ ep ≤ 4294967295) (hl : LsnOk p body.length) {j : Nat} (hj : j < sectN body.length) {z : List Nat} (hz : (getN z).2 ≠ 0) (hz64 : z.length = 64) {rest : List (List Nat)} (h64 : ∀ x ∈ rest, x.length = 64) :
    standsN p ((sectorsOf p (fun _ => ep) body).take j ++ z :: rest).flatten = none := by
  have hc : chunkN ((sectorsOf p (fun _ => ep) body).take j ++ z :: rest).flatten = (sectorsOf p (fun _ => ep) body).take j ++ z :: rest := by
    refine chunk_flat _ (fun x hx => ?_)
    rcases List.mem_append.1 hx with h | h
    · exact sectorsOf_64 x (List.mem_of_mem_take h)
    · rcases List.mem_cons.1 h with rfl | h
      · exact hz64
      · exact h64 x h
  obtain ⟨s, hs⟩ := run_take hl hep hB j hj
  have h1 : gRun (gStart p) ((sectorsOf p (fun _ => ep) body).take j ++ [z]) = .inr ([], 0, (getN z).2) := by
    rw [gRun_snoc, hs]
    exact gStep_bad hz
  have h2 := gRun_more _ rest _ h1
  rw [List.append_assoc, List.singleton_append] at h2
  unfold standsN
  rw [hc, h2]
  exact if_pos hz
/-- What stands has the epoch of its first sector. -/
theorem stands_ep {p : Int} {x : List Nat} {rest : List (List Nat)} (hx : x.length = 64) {e n : Int} {r : Rc} (h : standsN p (x :: rest).flatten = some (e, n, r)) : e = (getN x).1.ep := by
  unfold standsN at h
  split at h
  · cases h
  · split at h
    · cases h
    · simp only [Option.some.injEq, Prod.mk.injEq] at h
      rw [← h.1, List.flatten_cons, List.take_left' hx]
end Go.Proofs.Ytbbhchmdggfncaa


/-
  The types of the translation that the walks of package dev meet, as closed facts.
-/
namespace Go.Proofs.Ytbbhchmdggfncaa.D
open Go.RowKit
set_option linter.unusedSimpArgs false
set_option linter.unusedVariables false
set_option maxRecDepth 100000

theorem Try.info5 : (Try.prog.info? 5).map (fun i => (i.zero, i.size, i.bytes)) = some (some (.int .u8 0), 1, 1) := by kernel_rfl
theorem Try.info85 : (Try.prog.info? 85).map (fun i => (i.zero, i.size, i.bytes)) = some (some (.agg (List.replicate 64 (.int .u8 0)).toArray), 64, 64) := by kernel_rfl
theorem Try.info87 : (Try.prog.info? 87).map (fun i => (i.zero, i.size, i.bytes)) = some (some (.agg (.int .i64 0 :: List.replicate 64 (.int .u8 0)).toArray), 65, 72) := by kernel_rfl
theorem Try.agg85 : aggSize Try.prog 85 64 := by
  obtain ⟨i0, hi, _, hs, _⟩ := info_parts Try.info85
  exact ⟨⟨i0, hi, hs⟩, _, Try.underlying85, .inl ⟨_, _, rfl⟩⟩
theorem Try.agg87 : aggSize Try.prog 87 65 := by
  obtain ⟨i0, hi, _, hs, _⟩ := info_parts Try.info87
  exact ⟨⟨i0, hi, hs⟩, _, Try.underlying87, .inr ⟨_, rfl⟩⟩
theorem Try.mixed : Try.prog.follows .mixedOrders = true := by kernel_rfl

end Go.Proofs.Ytbbhchmdggfncaa.D


/-
  dev.join: the bytes of the sectors, in new memory.
-/
namespace Go.Proofs.Ytbbhchmdggfncaa.D
open Go.RowKit
set_option linter.unusedSimpArgs false
set_option linter.unusedVariables false
set_option maxRecDepth 100000

/-- A byte's cell. -/
def isByte (v : Value) : Prop := ∃ n : Int, v = .int .u8 n ∧ 0 ≤ n ∧ n < 256
theorem isByte.one {v : Value} (h : isByte v) : v.oneCell' = true := by obtain ⟨n, rfl, _⟩ := h; rfl
theorem isByte.zero : isByte (.int .u8 0) := ⟨0, rfl, by decide, by decide⟩

theorem put_step (L : List Value) (z : Value) (n k : Nat) (hk : k < n) (hl : L.length = 64 * n) :
    put (L.take (64 * k) ++ List.replicate (64 * (n - k)) z) (k * 64) ((L.drop (k * 64)).take 64) = L.take (64 * (k + 1)) ++ List.replicate (64 * (n - (k + 1))) z := by
  have e2 : ((L.drop (64 * k)).take 64).length = 64 := by simp; omega
  have e3 : (L.take (64 * k)).length = 64 * k := by simp; omega
  have e4 : L.take (64 * (k + 1)) = L.take (64 * k) ++ (L.drop (64 * k)).take 64 := by
    rw [Nat.mul_add, List.take_add]
  rw [e4]
  unfold put
  rw [Nat.mul_comm k 64, e2, List.take_left' e3, List.drop_append, e3, List.drop_eq_nil_of_le (show (List.take (64 * k) L).length ≤ 64 * k + 64 by omega), List.nil_append, List.drop_replicate]
  congr 2
  omega

set_option maxHeartbeats 1000000 in
theorem join_at (w : World) (bs n cap : Nat) (L : List Value) (hl : L.length = 64 * n) (hn : n ≤ 4096) (hL : Blk w bs L 85) (hB : ∀ v ∈ L, isByte v) :
    Calls Try.prog 52 #[.slice (some ⟨bs, 0, none⟩) n cap] w fun e w' => e = .returned (.slice (some ⟨w.heap.size, 0, none⟩) (n * 64) (n * 64)) ∧ Blk w' w.heap.size L 5 ∧ Kept (fun _ => False) w w' := by
  obtain ⟨i5, hi5, hz5, hs5, hb5⟩ := info_parts Try.info5
  have Hi5 := hide hi5
  have Hz5 := hide hz5
  have Hs5 := hide hs5
  have Hb5 := hide hb5
  have HL := hide hl
  obtain ⟨i70, hi70, hz70, hs70, hb70⟩ := info_parts Try.info85
  have Hi70 := hide hi70
  have Hz70 := hide hz70
  have HB := hide hB
  have hlt0 := hL.lt
  clear hi5 hz5 hs5 hb5 hl hi70 hz70 hs70 hb70 hB
  go_enter Try.func52, Try.ntmps52
  go_wp2_with ((with_reducible refine aw_make (n := n * 64) 1 (by decide) Try.underlying22 Hi5.out Hz5.out rfl Hs5.out rfl rfl (by rw [Hb5.out]; omega) (by unfold maxLen; omega) ?_); intro w1 hw1 hk1 hz1)
  have Hz1 := hide hz1
  clear hz1
  go_loopw [12] (fun i wr => ∃ k : Nat, k ≤ n ∧ i = .int .i64 k ∧ Kept (fun _ => False) w wr ∧ Blk wr w.heap.size (L.take (64 * k) ++ List.replicate (64 * (n - k)) (.int .u8 0)) 5) (fun i _ => n - (intOf i).toNat)
  case atStart =>
    refine ⟨0, Nat.zero_le _, rfl, hk1, ?_⟩
    have := hw1
    simpa [Nat.mul_comm] using this
  case round =>
    obtain ⟨k, hk, rfl, hkept, hg⟩ := hrel
    clear hw1 hk1
    by_cases hlt : k < n
    · have hbs := hkept.blk hL (fun h => h)
      have hsz := hkept.size
      go_wp2_with (first
        | ((with_reducible refine aw_load Try.agg85 rfl hbs (by rw [HL.out]; omega) rfl ?_))
        | ((with_reducible refine aw_alloc Hi70.out Hz70.out ?_); intro w2 hw2 hk2 hz2; have Hz2 := hide hz2; clear hz2)
        | ((with_reducible refine aw_store Try.agg85 rfl rfl (by rw [List.length_take, List.length_drop, HL.out]; omega) (fun v hv => (HB.out v (List.mem_of_mem_drop (List.mem_of_mem_take hv))).one) hw2 (by simp [Value.cells]) ?_); intro w3 hw3 hk3 hz3; have Hz3 := hide hz3; clear hz3))
      refine region_tail 5 Try.mixed (by kernel_rfl) ?_
      intro w4 hk4 hz4
      have Hz4 := hide hz4
      clear hz4
      simp only [List.take_succ_cons, List.take_zero, List.drop_succ_cons, List.drop_zero]
      have hw : IntKind.i64.wrap (↑k * 64) = ((k * 64 : Nat) : Int) := by rw [IntKind.wrap_i64]; omega
      still_step
      still_step
      still_step
      clear hw
      refine st_slice_lo Try.underlying22 Hi5.out 1 Hs5.out rfl (k * 64) rfl (by omega) (by omega) ?_
      still_step
      refine wpStill_nil ?_
      have hgne : ¬ w.heap.size = wr.heap.size := by have := hg.lt; omega
      have hM : (List.take 64 (List.drop (k * 64) L)).length = 64 := by rw [List.length_take, List.length_drop, HL.out]; omega
      rw [put_whole _ _ (by rw [hM]; simp [Value.cells])] at hw3
      refine aw_copy Try.underlying22 Hi5.out 1 Hs5.out rfl rfl 64 (by omega) (hk4.blk (hk3.blk (hk2.blk hg (fun h => h)) hgne) (fun h => h)) (hk4.blk hw3 (fun h => h)) (by rw [hM]; decide) (by simp [HL.out]; omega) (fun v hv => (HB.out v (List.mem_of_mem_drop (List.mem_of_mem_take hv))).one) ?_
      intro w5 hw5 hk5 _
      have hg5 : Blk w5 w.heap.size (L.take (64 * (k + 1)) ++ List.replicate (64 * (n - (k + 1))) (.int .u8 0)) 5 := by
        rw [← put_step L _ n k hlt HL.out]
        simpa [List.take_take] using hw5
      have hkk : Kept (fun _ => False) w w5 := by
        refine ((((hkept.trans hk2 ?_).trans hk3 ?_).trans hk4 ?_).trans hk5 ?_)
        all_goals (intro i hi h; first | exact h | omega)
      clear hw5 hk5 hk4 hk3 hk2 hw3 hw2 hg hkept hbs hM
      go_wp2
      go_roundw
      case rel => exact ⟨k + 1, by omega, by go_num, hkk, hg5⟩
      case measure => simp [intOf]; omega
    · obtain rfl : n = k := by omega
      go_wp2
      go_ret
      refine ⟨rfl, ?_, hkept⟩
      have := hg
      rw [List.take_of_length_le (by rw [HL.out]; omega)] at this
      simpa using this
end Go.Proofs.Ytbbhchmdggfncaa.D
