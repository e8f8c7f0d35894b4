/-
  Bytes as strings; bytes.Equal; the reference's Four; copying and appending bytes.
-/
import Derived.Test.YtbbhchmdggfncaaJ06
import Derived.Test.YtbbhchmdggfncaaJ01
import Derived.Test.YtbbhchmdggfncaaJ05
namespace Go.Proofs.Ytbbhchmdggfncaa
open Go.RowKit Go.Shelf
set_option linter.unusedSimpArgs false
set_option linter.unusedVariables false
set_option maxRecDepth 100000

section
variable {ρ : Operand → Value} {w : World} {dst : Option Tmp} {ty : TypeId} {pos : String} {aft : Array Edge} {gd : Option (Nat × Bool)} {x y z : Operand}
theorem r_copy22 {u v v' : Value} {w' : World} (hx : ρ x = u) (hy : ρ y = v) (h : (Builtin.copy_ #[22, 22] ty #[u, v]).run Try.prog w = .ok v' w') :
    (execOp ρ ⟨dst, .call { callee := .builtin .copy, args := #[x, y], argTypes := #[22, 22] }, ty, pos, aft, gd⟩).run Try.prog w = .ok (.value v') w' := by
  simp [execOp, resolve, invoke, builtin, hx, hy, h]
end

theorem Own.new (w : World) : Own (w.alloc (.cells #[] 5)) w.heap.size (.slice (some ⟨w.heap.size, 0, none⟩) 0 0) [] :=
  ⟨World.ownsRow_made w #[] 0 (Nat.le_refl _) (Nat.zero_le _) rfl, by simp⟩
set_option maxHeartbeats 1000000 in
theorem equal_atc (w : World) (u v : Value) (A B : List Nat) (hu : Src w u A) (hv : Src w v B) :
    Calls Try.prog 91 #[u, v] w fun e w' => e = .returned (.bool (decide (A = B))) ∧ w = w' := by
  have HU := hide hu
  have HV := hide hv
  have HI : Hid (decide (strN A = strN B) = decide (A = B)) := hide (by rw [decide_eq_decide]; exact strN_iff hu.lt hv.lt)
  clear hu hv
  go_enter Try.func91, Try.ntmps91
  go_wp2_with (with_reducible refine stop_convert 22 9 ?_)
  refine hide ?_
  refine wpList_run rfl (r_strS (v := u) (B := A) rfl HU.out) ?_
  go_wp2_with (with_reducible refine stop_convert 22 9 ?_)
  refine hide ?_
  refine wpList_run rfl (r_strS (v := v) (B := B) rfl HV.out) ?_
  refine wpList_run rfl (r_eql9 (p := strN A) (q := strN B) rfl rfl) ?_
  rw [HI.out]
  go_wp2
  go_ret
  exact ⟨rfl, rfl⟩

end Go.Proofs.Ytbbhchmdggfncaa


/-
  crc.Mark, crc.Good, the reference's Mark.
-/
namespace Go.Proofs.Ytbbhchmdggfncaa
open Go.RowKit Go.Shelf
set_option linter.unusedSimpArgs false
set_option linter.unusedVariables false
set_option maxRecDepth 100000

end Go.Proofs.Ytbbhchmdggfncaa


/-
  crc.Mark, crc.Good.
-/
namespace Go.Proofs.Ytbbhchmdggfncaa
open Go.RowKit Go.Shelf
set_option linter.unusedSimpArgs false
set_option linter.unusedVariables false
set_option maxRecDepth 100000

/-- Copying none. -/
theorem run_copy_none {w : World} {ty : TypeId} (g : Nat) (bo : Option Addr) (cap : Nat) (hn : bo = none → cap = 0) (hg : Blk w g [] 5) :
    ∃ w', (Builtin.copy_ #[22, 22] ty #[.slice (some ⟨g, 0, none⟩) 0 0, .slice bo 0 cap]).run Try.prog w = .ok (.int .i64 0) w' ∧ Blk w' g [] 5 ∧ Kept (fun k => k = g) w w' := by
  obtain ⟨i5, hi5, hz5, hs5, hb5⟩ := info_parts Try.info5
  refine ⟨w, ?_, hg, Kept.refl _ _⟩
  cases bo <;> simp [Builtin.copy_, run_underlying Try.underlying22, Builtin.lenOf, sizeOf, typeInfo, hi5, Builtin.firstCells, loadCells, loadCellsFrom, storeCells, goInt]

set_option maxHeartbeats 1000000 in
theorem mark_nil (w : World) (v : Value) (hs : Src w v []) :
    Calls Try.prog 68 #[v] w fun e w' => ∃ g, e = .returned (.slice (some ⟨g, 0, none⟩) 0 0) ∧ Blk w' g [] 5 ∧ w.heap.size ≤ g ∧ Kept (fun _ => False) w w' := by
  obtain ⟨bo, cap, rfl, hcap, hB, hsrc, hnil⟩ := hs
  obtain ⟨i5, hi5, hz5, hs5, hb5⟩ := info_parts Try.info5
  have Hi5 := hide hi5
  have Hz5 := hide hz5
  have Hs5 := hide hs5
  have Hb5 := hide hb5
  have HNil := hide hnil
  clear hi5 hz5 hs5 hb5 hB hsrc hnil
  go_enter Try.func68, Try.ntmps68
  go_wp2_with (first
    | ((with_reducible refine aw_make (n := 0) 1 (by decide) Try.underlying22 Hi5.out Hz5.out rfl Hs5.out rfl rfl (by rw [Hb5.out]; decide) (by unfold maxLen; decide) ?_); intro w1 hw1 hk1 hz1; have Hz1 := hide hz1; clear hz1)
    | (with_reducible refine stop_copy 22 ?_))
  refine hide ?_
  obtain ⟨w2, hr, hb2, hk2⟩ := run_copy_none (w := w1) (ty := 3) w.heap.size bo cap HNil.out hw1
  refine wpList_run rfl (r_copy22 rfl rfl hr) ?_
  have hk : Kept (fun _ => False) w w2 := hk1.trans hk2 (fun i hi h => by omega)
  clear hr hk1 hk2 hw1
  go_wp2
  go_ret
  exact ⟨w.heap.size, rfl, hb2, Nat.le_refl _, hk⟩

set_option maxHeartbeats 1000000 in
theorem mark_few (w : World) (v : Value) (B : List Nat) (hs : Src w v B) (h1 : 0 < B.length) (h4 : B.length < 4) :
    Calls Try.prog 68 #[v] w fun e w' => ∃ g, e = .returned (.slice (some ⟨g, 0, none⟩) B.length B.length) ∧ Blk w' g (BV B) 5 ∧ w.heap.size ≤ g ∧ Kept (fun _ => False) w w' := by
  obtain ⟨bo, cap, rfl, hcap, hB, hsrc, hnil⟩ := hs
  obtain ⟨sb, so, rfl, hc⟩ := hsrc h1
  obtain ⟨i5, hi5, hz5, hs5, hb5⟩ := info_parts Try.info5
  have Hi5 := hide hi5
  have Hz5 := hide hz5
  have Hs5 := hide hs5
  have Hb5 := hide hb5
  have HB1 := hide (BV_one B)
  have HBl := hide (BV_length B)
  clear hi5 hz5 hs5 hb5 hB hsrc hnil
  go_enter Try.func68, Try.ntmps68
  go_wp2_with (first
    | ((with_reducible refine aw_make (n := B.length) 1 (by decide) Try.underlying22 Hi5.out Hz5.out rfl Hs5.out rfl rfl (by rw [Hb5.out]; omega) (by unfold maxLen; omega) ?_); intro w1 hw1 hk1 hz1; have Hz1 := hide hz1; clear hz1; have hc1 := hk1.cells hc (fun h => h))
    | ((with_reducible refine aw_copyC Try.underlying22 Hi5.out 1 Hs5.out rfl rfl B.length (by omega) hw1 hc1 (by rw [HBl.out]; omega) (by simp) HB1.out ?_); intro w2 hw2 hk2 hz2; have Hz2 := hide hz2; clear hz2; rw [put_whole _ _ (by rw [HBl.out]; simp)] at hw2))
  have hk : Kept (fun _ => False) w w2 := hk1.trans hk2 (fun i hi h => by omega)
  go_ret
  exact ⟨w.heap.size, rfl, hw2, Nat.le_refl _, hk⟩

set_option maxHeartbeats 2000000 in
theorem mark_more (w : World) (v : Value) (B : List Nat) (n : Nat) (hs : Src w v B) (hn : B.length = n + 4) (hl : B.length ≤ 1000000) :
    Calls Try.prog 68 #[v] w fun e w' => ∃ g, e = .returned (.slice (some ⟨g, 0, none⟩) (n + 4) (n + 4)) ∧ Blk w' g (BV (markN B)) 5 ∧ w.heap.size ≤ g ∧ Kept (fun _ => False) w w' := by
  obtain ⟨bo, cap, rfl, hcap, hB, hsrc, hnil⟩ := hs
  obtain ⟨sb, so, rfl, hc⟩ := hsrc (by omega)
  obtain ⟨i5, hi5, hz5, hs5, hb5⟩ := info_parts Try.info5
  have Hi5 := hide hi5
  have Hz5 := hide hz5
  have Hs5 := hide hs5
  have Hb5 := hide hb5
  obtain ⟨i38, hi38, hz38, hs38, hb38⟩ := info_parts Try.info127
  have Hi38 := hide hi38
  have Hz38 := hide hz38
  have HB1 := hide (BV_one B)
  have HBl : Hid ((BV B).length = n + 4) := hide (by rw [BV_length, hn])
  obtain ⟨T, hT⟩ : ∃ T, B.take n = T := ⟨_, rfl⟩
  have hTl : T.length = n := by rw [← hT, List.length_take]; omega
  have hTB : ∀ x ∈ T, x < 256 := fun x hx => hB x (by rw [← hT] at hx; exact List.mem_of_mem_take hx)
  have HTB := hide hTB
  have HT : Hid ((BV B).take n = BV T) := hide (by rw [← BV_take, hT])
  have HM : Hid (put (BV B) n (BV (fourN (joinN 0 T))) = BV (markN B)) := hide (by
    unfold markN
    rw [if_neg (by omega), show B.length - 4 = n by omega, hT, BV_append, put, ← hT, ← BV_take]
    have : (BV B).drop (n + (BV (fourN (joinN 0 (B.take n)))).length) = [] := List.drop_eq_nil_of_le (by rw [BV_length, BV_length, hn]; simp [fourN])
    rw [this, List.append_nil])
  rw [hn] at hcap hl ⊢
  clear hi5 hz5 hs5 hb5 hi38 hz38 hs38 hb38 hB hsrc hnil hT hn hTB
  obtain ⟨F, hF⟩ : ∃ F, BV (fourN (joinN 0 T)) = F := ⟨_, rfl⟩
  have HF4 : Hid (F.length = 4) := hide (by rw [← hF]; simp [BV, fourN])
  have HF1 : Hid (∀ v ∈ F, v.oneCell' = true) := hide (by rw [← hF]; exact BV_one _)
  have HF := hide hF
  clear hF
  go_enter Try.func68, Try.ntmps68
  go_wp2_with (first
    | ((with_reducible refine aw_make (n := n + 4) 1 (by decide) Try.underlying22 Hi5.out Hz5.out rfl Hs5.out rfl rfl (by rw [Hb5.out]; omega) (by unfold maxLen; omega) ?_); intro w1 hw1 hk1 hz1; have Hz1 := hide hz1; clear hz1; have hc1 := hk1.cells hc (fun h => h))
    | ((with_reducible refine aw_copyC (dst := some 12) Try.underlying22 Hi5.out 1 Hs5.out rfl rfl (n + 4) (by omega) hw1 hc1 (by rw [HBl.out]; omega) (by simp) HB1.out ?_); intro w2 hw2 hk2 hz2; have Hz2 := hide hz2; clear hz2; rw [put_whole _ _ (by rw [HBl.out]; simp)] at hw2)
    | (go_at_call 82; refine (cut_at w2 w.heap.size 0 n (n + 4) (by omega) (by omega)).mono ?_; rintro e w3 ⟨rfl, hk3⟩; have hw3 := hk3.blk hw2 (fun h => h); rw [Nat.zero_add])
    | (go_at_call 84; refine (sum_at w3 _ T ⟨_, _, by rw [hTl], by omega, HTB.out, fun _ => ⟨w.heap.size, 0, rfl, by have := hw3.cells 0 n; rw [List.drop_zero, HT.out] at this; exact this⟩, fun h => by cases h⟩ (by omega)).mono ?_; rintro e w4 ⟨rfl, rfl⟩)
    | (go_at_call 83; refine (spell_at w3 _ (joinN_lt 0 T)).mono ?_; rintro e w5 ⟨rfl, hk5⟩; rw [HF.out]; have hw5 := hk5.blk hw3 (fun h => h))
    | ((with_reducible refine aw_alloc (dst := some 6) Hi38.out Hz38.out ?_); intro w6 hw6 hk6 hz6; have Hz6 := hide hz6; clear hz6; have hg6 := hk6.blk hw5 (fun h => h))
    | ((with_reducible refine aw_store (x := .tmp 6) Try.agg127 rfl rfl HF4.out HF1.out hw6 (by simp [Value.cells]) ?_); intro w7 hw7 hk7 hz7; rw [put_whole _ _ (by rw [HF4.out]; simp [Value.cells])] at hw7; have Hz7 := hide hz7; clear hz7; have hg7 := hk7.blk hg6 (fun h => by have := hw5.lt; omega); have hc7 := hw7.cells 0 4; rw [List.drop_zero, List.take_of_length_le (by rw [HF4.out]; decide)] at hc7)
    | ((with_reducible refine aw_copyC (dst := some 27) (M := F) Try.underlying22 Hi5.out 1 Hs5.out rfl rfl 4 (by decide) hg7 hc7 (by rw [HF4.out]) (by rw [HBl.out]; omega) HF1.out ?_); intro w8 hw8 hk8 hz8; have Hz8 := hide hz8; clear hz8; rw [← HF.out, HM.out] at hw8))
  have hk : Kept (fun _ => False) w w8 := by
    have a1 : Kept (fun _ => False) w w2 := hk1.trans hk2 (fun i hi h => by omega)
    have a2 := (a1.trans hk3 (fun _ _ h => h)).trans hk5 (fun _ _ h => h)
    have a3 := a2.trans hk6 (fun _ _ h => h)
    have a4 := a3.trans hk7 (fun i hi h => by have := a2.size; omega)
    exact a4.trans hk8 (fun i hi h => by omega)
  go_ret
  exact ⟨w.heap.size, rfl, hw8, Nat.le_refl _, hk⟩

theorem mark_at (w : World) (v : Value) (B : List Nat) (hs : Src w v B) (hl : B.length ≤ 1000000) :
    Calls Try.prog 68 #[v] w fun e w' => ∃ g, e = .returned (.slice (some ⟨g, 0, none⟩) B.length B.length) ∧ Blk w' g (BV (markN B)) 5 ∧ w.heap.size ≤ g ∧ Kept (fun _ => False) w w' := by
  by_cases h : B.length < 4
  · have e : markN B = B := by unfold markN; rw [if_pos h]
    rw [e]
    by_cases h0 : 0 < B.length
    · exact mark_few w v B hs h0 h
    · obtain rfl : B = [] := List.eq_nil_of_length_eq_zero (by omega)
      exact mark_nil w v hs
  · obtain ⟨n, hn⟩ : ∃ n, B.length = n + 4 := ⟨B.length - 4, by omega⟩
    rw [hn]
    exact mark_more w v B n hs hn hl

set_option maxHeartbeats 1000000 in
theorem good_few (w : World) (v : Value) (B : List Nat) (hs : Src w v B) (h4 : B.length < 4) :
    Calls Try.prog 80 #[v] w fun e w' => e = .returned (.bool (goodN B)) ∧ Kept (fun _ => False) w w' := by
  have HG : Hid (goodN B = false) := hide (by unfold goodN; rw [decide_eq_false_iff_not]; omega)
  obtain ⟨bo, cap, rfl, hcap, hB, hsrc, hnil⟩ := hs
  clear hB hsrc hnil
  go_enter Try.func80, Try.ntmps80
  go_wp2
  go_ret
  exact ⟨by rw [HG.out]; rfl, Kept.refl _ _⟩

set_option maxHeartbeats 2000000 in
theorem good_more (w : World) (v : Value) (B : List Nat) (n : Nat) (hs : Src w v B) (hn : B.length = n + 4) (hl : B.length ≤ 1000000) :
    Calls Try.prog 80 #[v] w fun e w' => e = .returned (.bool (goodN B)) ∧ Kept (fun _ => False) w w' := by
  obtain ⟨bo, cap, rfl, hcap, hB, hsrc, hnil⟩ := hs
  obtain ⟨sb, so, rfl, hc⟩ := hsrc (by omega)
  obtain ⟨i38, hi38, hz38, hs38, hb38⟩ := info_parts Try.info127
  have Hi38 := hide hi38
  have Hz38 := hide hz38
  obtain ⟨T, hT⟩ : ∃ T, B.take n = T := ⟨_, rfl⟩
  obtain ⟨D, hD⟩ : ∃ D, B.drop n = D := ⟨_, rfl⟩
  have hTl : T.length = n := by rw [← hT, List.length_take]; omega
  have hDl : D.length = 4 := by rw [← hD, List.length_drop]; omega
  have HTB : Hid (∀ x ∈ T, x < 256) := hide (fun x hx => hB x (by rw [← hT] at hx; exact List.mem_of_mem_take hx))
  have HDB : Hid (∀ x ∈ D, x < 256) := hide (fun x hx => hB x (by rw [← hD] at hx; exact List.mem_of_mem_drop hx))
  have HTC : Hid (Cells w sb so (BV T)) := hide (by
    have := hc.part 0 n
    rw [List.drop_zero, ← BV_take, hT] at this
    simpa using this)
  have HDC : Hid (Cells w sb (so + n) (BV D)) := hide (by
    have := hc.part n 4
    rw [← BV_drop, hD, List.take_of_length_le (by rw [BV_length, hDl]; decide)] at this
    exact this)
  have HG : Hid (decide (D = fourN (joinN 0 T)) = goodN B) := hide (by
    unfold goodN
    rw [show B.length - 4 = n by omega, hT, hD, decide_eq_decide]
    constructor
    · intro h; exact ⟨by omega, h⟩
    · intro h; exact h.2)
  rw [hn] at hcap hl ⊢
  clear hi38 hz38 hs38 hb38 hB hsrc hnil hT hD hn hc
  obtain ⟨F, hF⟩ : ∃ F, BV (fourN (joinN 0 T)) = F := ⟨_, rfl⟩
  have HF4 : Hid (F.length = 4) := hide (by rw [← hF]; simp [BV, fourN])
  have HF1 : Hid (∀ v ∈ F, v.oneCell' = true) := hide (by rw [← hF]; exact BV_one _)
  have HF := hide hF
  clear hF
  go_enter Try.func80, Try.ntmps80
  go_wp2_with (first
    | (go_at_call 82; refine (cut_at w sb so n cap (by omega) (by omega)).mono ?_; rintro e w3 ⟨rfl, hk3⟩)
    | (go_at_call 84; refine (sum_at w3 _ T ⟨_, _, by rw [hTl], by omega, HTB.out, fun _ => ⟨sb, so, rfl, hk3.cells HTC.out (fun h => h)⟩, fun h => by cases h⟩ (by omega)).mono ?_; rintro e w4 ⟨rfl, rfl⟩)
    | (go_at_call 83; refine (spell_at w3 _ (joinN_lt 0 T)).mono ?_; rintro e w5 ⟨rfl, hk5⟩; rw [HF.out])
    | ((with_reducible refine aw_alloc (dst := some 5) Hi38.out Hz38.out ?_); intro w6 hw6 hk6 hz6; have Hz6 := hide hz6; clear hz6)
    | ((with_reducible refine aw_store (x := .tmp 5) Try.agg127 rfl rfl HF4.out HF1.out hw6 (by simp [Value.cells]) ?_); intro w7 hw7 hk7 hz7; rw [put_whole _ _ (by rw [HF4.out]; simp [Value.cells])] at hw7; have Hz7 := hide hz7; clear hz7; have hk : Kept (fun _ => False) w w7 := (((hk3.trans hk5 (fun _ _ h => h)).trans hk6 (fun _ _ h => h)).trans hk7 (fun i hi h => by have := hk3.size; have := hk5.size; omega)); have hc7 := hw7.cells 0 4; rw [List.drop_zero, List.take_of_length_le (by rw [HF4.out]; decide), ← HF.out] at hc7)
    | (go_at_call 91; refine (equal_atc w7 _ _ D (fourN (joinN 0 T)) ⟨_, _, by rw [hDl], by omega, HDB.out, fun _ => ⟨sb, so + n, rfl, hk.cells HDC.out (fun h => h)⟩, fun h => by cases h⟩ ⟨some ⟨w5.heap.size, 0, none⟩, 4, rfl, by simp [fourN], fourN_lt _, fun _ => ⟨w5.heap.size, 0, rfl, hc7⟩, fun h => by cases h⟩).mono ?_; rintro e w8 ⟨rfl, rfl⟩; rw [HG.out]))
  go_ret
  exact ⟨rfl, hk⟩

theorem good_at (w : World) (v : Value) (B : List Nat) (hs : Src w v B) (hl : B.length ≤ 1000000) :
    Calls Try.prog 80 #[v] w fun e w' => e = .returned (.bool (goodN B)) ∧ Kept (fun _ => False) w w' := by
  by_cases h : B.length < 4
  · exact good_few w v B hs h
  · exact good_more w v B (B.length - 4) hs (by omega) hl

end Go.Proofs.Ytbbhchmdggfncaa


/-
  Frames in memory; Right.
-/
namespace Go.Proofs.Ytbbhchmdggfncaa
open Go.RowKit Go.Shelf
set_option linter.unusedSimpArgs false
set_option linter.unusedVariables false
set_option maxRecDepth 100000

theorem Try.info3 : (Try.prog.info? 3).map (fun i => (i.zero, i.size, i.bytes)) = some (some (.int .i64 0), 1, 8) := by kernel_rfl
theorem Try.info4 : (Try.prog.info? 4).map (fun i => (i.zero, i.size, i.bytes)) = some (some (.bool false), 1, 1) := by kernel_rfl
theorem Try.info22 : (Try.prog.info? 22).map (fun i => (i.zero, i.size, i.bytes)) = some (some (.slice none 0 0), 1, 24) := by kernel_rfl
theorem Try.info26 : (Try.prog.info? 26).map (fun i => (i.zero, i.size, i.bytes)) = some (some (.int .i64 0), 1, 8) := by kernel_rfl
theorem Try.info98 : (Try.prog.info? 98).map (fun i => (i.zero, i.size, i.bytes)) = some (some (.agg #[.int .i64 0, .int .i64 0, .int .i64 0, .int .i64 0, .slice none 0 0]), 5, 56) := by kernel_rfl
theorem Try.agg98 : aggSize Try.prog 98 5 := by
  obtain ⟨i, hi, _, hs, _⟩ := info_parts Try.info98
  exact ⟨⟨i, hi, hs⟩, _, Try.underlying98, .inr ⟨_, rfl⟩⟩

/-- A frame's cells. -/
def frV (f : Fr) (vb : Value) : List Value := [.int .i64 f.lsn, .int .i64 f.ep, .int .i64 f.ix, .int .i64 f.ct, vb]
def frAgg (f : Fr) (vb : Value) : Value := .agg #[.int .i64 f.lsn, .int .i64 f.ep, .int .i64 f.ix, .int .i64 f.ct, vb]

set_option maxHeartbeats 1000000 in
theorem within_at (w : World) (n m : Int) (b : Bool) (hb : decide (0 ≤ n ∧ n ≤ m) = b) : Calls Try.prog 65 #[.int .i64 n, .int .i64 m] w fun e w' => e = .returned (.bool b) ∧ w = w' := by
  by_cases h1 : 0 ≤ n
  · by_cases h2 : n ≤ m
    · have h2' : ¬ m < n := by omega
      have hb' : b = true := by rw [← hb]; simp [h1, h2]
      subst hb'
      clear hb
      go_enter Try.func65, Try.ntmps65
      go_wp2
      go_ret
      simp
    · have h2' : m < n := by omega
      have hb' : b = false := by rw [← hb]; simp [h2']
      subst hb'
      clear hb
      go_enter Try.func65, Try.ntmps65
      go_wp2
      go_ret
      simp
  · have h1' : n < 0 := by omega
    have hb' : b = false := by rw [← hb]; simp; omega
    subst hb'
    clear hb
    go_enter Try.func65, Try.ntmps65
    go_wp2
    go_ret
    simp

def rightP (l e i c : Int) (len : Nat) : Bool := decide (0 ≤ l ∧ l ≤ 4611686018427387903 ∧ 0 ≤ e ∧ e ≤ 4294967295 ∧ len ≤ 40 ∧ 0 ≤ i ∧ i < c ∧ c ≤ 65535)
set_option maxRecDepth 100000 in
set_option maxHeartbeats 4000000 in
theorem rightP_at (w : World) (l e i c : Int) (bo : Option Addr) (len cap : Nat) (b : Bool) (hb : rightP l e i c len = b) :
    Calls Try.prog 66 #[.agg #[.int .i64 l, .int .i64 e, .int .i64 i, .int .i64 c, .slice bo len cap]] w fun e w' => e = .returned (.bool b) ∧ Kept (fun _ => False) w w' := by
  have Hb : Hid (rightP l e i c len = b) := hide hb
  clear hb
  cases hl : decide (0 ≤ l ∧ l ≤ 4611686018427387903) with
  | false =>
    obtain rfl : b = false := by rw [← Hb.out]; unfold rightP; simp at hl ⊢; omega
    go_enter Try.func66, Try.ntmps66
    go_wp2_with (first
      | ((with_reducible refine aw_box (t := 98) (v := .agg #[.int .i64 l, .int .i64 e, .int .i64 i, .int .i64 c, .slice bo len cap]) rfl ?_); intro w1 hb1 hk1 hz1; have c0 : w1.cell? ⟨w.heap.size, 0, none⟩ = some (.int .i64 l) := hb1.cell 0; clear hz1 hb1)
      | fail)
    refine (within_at _ _ _ false hl).mono ?_
    rintro e w2 ⟨rfl, rfl⟩
    clear hl
    go_wp2
    go_ret
    exact ⟨rfl, hk1⟩
  | true =>
  cases he : decide (0 ≤ e ∧ e ≤ 4294967295) with
  | false =>
    obtain rfl : b = false := by rw [← Hb.out]; unfold rightP; simp at he ⊢; omega
    go_enter Try.func66, Try.ntmps66
    go_wp2_with (first
      | ((with_reducible refine aw_box (t := 98) (v := .agg #[.int .i64 l, .int .i64 e, .int .i64 i, .int .i64 c, .slice bo len cap]) rfl ?_); intro w1 hb1 hk1 hz1; have c0 : w1.cell? ⟨w.heap.size, 0, none⟩ = some (.int .i64 l) := hb1.cell 0; have c1 : w1.cell? ⟨w.heap.size, 1, none⟩ = some (.int .i64 e) := hb1.cell 1; clear hz1 hb1)
      | fail)
    refine (within_at _ _ _ true hl).mono ?_
    rintro e w2 ⟨rfl, rfl⟩
    clear hl
    go_wp2_with fail
    refine (within_at _ _ _ false he).mono ?_
    rintro e w2 ⟨rfl, rfl⟩
    clear he
    go_wp2
    go_ret
    exact ⟨rfl, hk1⟩
  | true =>
  have Hl := hide hl
  have He := hide he
  have main : (∃ x, x = (decide (len ≤ 40) && decide (0 ≤ i) && decide (i < c) && decide (c ≤ 65535)) ∧ x = b) := ⟨_, rfl, by rw [← Hb.out]; unfold rightP; simp only [decide_eq_true_eq] at hl he; rw [Bool.eq_iff_iff]; simp only [Bool.and_eq_true, decide_eq_true_eq]; omega⟩
  have Hm := hide main
  clear main hl he
  go_enter Try.func66, Try.ntmps66
  go_wp2_with (first
    | ((with_reducible refine aw_box (t := 98) (v := .agg #[.int .i64 l, .int .i64 e, .int .i64 i, .int .i64 c, .slice bo len cap]) rfl ?_); intro w1 hb1 hk1 hz1; have c0 : w1.cell? ⟨w.heap.size, 0, none⟩ = some (.int .i64 l) := hb1.cell 0; have c1 : w1.cell? ⟨w.heap.size, 1, none⟩ = some (.int .i64 e) := hb1.cell 1; have c2 : w1.cell? ⟨w.heap.size, 2, none⟩ = some (.int .i64 i) := hb1.cell 2; have c3 : w1.cell? ⟨w.heap.size, 3, none⟩ = some (.int .i64 c) := hb1.cell 3; have c4 : w1.cell? ⟨w.heap.size, 4, none⟩ = some (.slice bo len cap) := hb1.cell 4; clear hz1 hb1)
    | fail)
  refine (within_at _ _ _ true Hl.out).mono ?_
  rintro e w2 ⟨rfl, rfl⟩
  go_wp2_with fail
  refine (within_at _ _ _ true He.out).mono ?_
  rintro e w2 ⟨rfl, rfl⟩
  by_cases h3 : len ≤ 40
  · by_cases h4 : 0 ≤ i
    · by_cases h5 : i < c
      · by_cases h6 : c ≤ 65535
        · have h6' : ¬ 65535 < c := by omega
          go_wp2
          go_ret
          obtain ⟨x, hx, hxb⟩ := Hm.out
          refine ⟨?_, hk1⟩
          rw [← hxb, hx]
          simp [h3, h4, h5, h6]
        · have h6' : 65535 < c := by omega
          go_wp2
          go_ret
          obtain ⟨x, hx, hxb⟩ := Hm.out
          refine ⟨?_, hk1⟩
          rw [← hxb, hx]
          simp [h3, h4, h5, h6]
      · go_wp2
        go_ret
        obtain ⟨x, hx, hxb⟩ := Hm.out
        refine ⟨?_, hk1⟩
        rw [← hxb, hx]
        simp [h3, h4]; omega
    · have h4' : i < 0 := by omega
      go_wp2
      go_ret
      obtain ⟨x, hx, hxb⟩ := Hm.out
      refine ⟨?_, hk1⟩
      rw [← hxb, hx]
      simp [h3]; omega
  · have h3' : 40 < len := by omega
    go_wp2
    go_ret
    obtain ⟨x, hx, hxb⟩ := Hm.out
    refine ⟨?_, hk1⟩
    rw [← hxb, hx]
    simp; omega
theorem Src.slice {w : World} {v : Value} {B : List Nat} (h : Src w v B) : ∃ bo cap, v = .slice bo B.length cap := by
  obtain ⟨bo, cap, rfl, _⟩ := h
  exact ⟨bo, cap, rfl⟩
theorem right_at (w : World) (f : Fr) (vb : Value) (hs : ∃ bo cap, vb = .slice bo f.B.length cap) : Calls Try.prog 66 #[frAgg f vb] w fun e w' => e = .returned (.bool (rightN f)) ∧ Kept (fun _ => False) w w' := by
  obtain ⟨bo, cap, rfl⟩ := hs
  exact rightP_at w f.lsn f.ep f.ix f.ct bo f.B.length cap _ rfl
end Go.Proofs.Ytbbhchmdggfncaa
