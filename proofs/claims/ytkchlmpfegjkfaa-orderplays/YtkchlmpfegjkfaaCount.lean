/-
  Count.
-/
import Derived.Test.YtkchlmpfegjkfaaIterD
namespace Go.Proofs.Ytkchlmpfegjkfaa
open Go.RowKit Go.Shelf
set_option linter.unusedSimpArgs false
set_option linter.unusedVariables false
attribute [local go_sem] Oper.semAt_some

/-- How many values are longer than two. -/
def cntV : List EntI → Nat
  | [] => 0
  | x :: l => (if 2 < x.2.size then 1 else 0) + cntV l
theorem cntV_append : ∀ a b : List EntI, cntV (a ++ b) = cntV a + cntV b
  | [], b => by simp [cntV]
  | x :: a, b => by simp only [List.cons_append, cntV, cntV_append a b]; omega
theorem cntV_le : ∀ a : List EntI, cntV a ≤ a.length
  | [] => by simp [cntV]
  | x :: a => by have := cntV_le a; simp only [cntV, List.length_cons]; split <;> omega

set_option maxHeartbeats 400000 in
theorem is16 (s : ByteArray) (w : World) (hs : s.size ≤ 1000000) : Calls Try.prog 16 #[.string s] w fun e w' => e = .returned (.bool (decide (2 < s.size))) ∧ w = w' := by
  by_cases h : 2 < s.size
  · have HD : Hid (decide (2 < s.size) = true) := hide (by simpa using h)
    go_enter Try.func16, Try.ntmps16
    go_wp2
    go_ret
    exact ⟨by rw [HD.out]; simp; omega, rfl⟩
  · have HD : Hid (decide (2 < s.size) = false) := hide (by simpa using h)
    go_enter Try.func16, Try.ntmps16
    go_wp2
    go_ret
    exact ⟨by rw [HD.out]; simp; omega, rfl⟩

/-- The word of the loop of Count. -/
def CountI (w : World) (Bn Bi : Nat) (pre : List EntI) (F : Nat → Prop) (W : World) : Prop :=
  Blk W Bn [.int .i64 (cntV pre : Nat)] 3 ∧ Blk W Bi [.func (.func 16) #[] #[]] 44 ∧ F = (fun k => k = Bn) ∧ Kept (fun _ => False) w W
theorem CountI.foot (w : World) (Bn Bi B : Nat) (hB : w.heap.size ≤ B) : FootOk B (CountI w Bn Bi) := by
  refine ⟨?_, ?_⟩
  · rintro pre F _ A C row ⟨hb, hi, rfl, hk⟩ hg hr
    have hkg := Kept.of_grown hg
    have hn : ∀ k, IsCells A k → ¬ row = some k := fun k hc e => by
      obtain ⟨_, o, h1, h2⟩ := hr k e
      exact hc.not_loop h1 h2
    refine ⟨hkg.blk hb (hn _ hb.isCells), hkg.blk hi (hn _ hi.isCells), rfl, hk.trans hkg (fun i hi e => ?_)⟩
    have := (hr i e).1
    omega
  · rintro pre F A ⟨hb, hi, rfl, hk⟩ k rfl hB'
    exact hb.isCells

theorem run_callF1 {P : Program} {w : World} {ty : TypeId} {pos : String} {aft : Array Edge} {x y : Operand} {ts : Array TypeId} (ρ : Operand → Value) {dst : Option Tmp} {gd : Option (Nat × Bool)} {gf : Nat} {vy : Value} {lb : Array Value} (hx : ρ x = .func (.func gf) #[] lb) (hy : ρ y = vy) (eg : ∀ args w, (callFunc gf args).run P w = .ok (.enter gf args) w) :
    (execOp ρ ⟨dst, .call { callee := .value x, args := #[y], argTypes := ts }, ty, pos, aft, gd⟩).run P w = .ok (.enter gf (#[vy] ++ lb)) w := by
  simp [execOp, resolve, invoke, hx, hy, go_sem, eg]
theorem ai_c1_in {n lo : Nat} {P : Program} {ops : Array Oper} {Q : Exit → Act → World → Prop} {a : Act} {w : World} {rest : List Oper} {d : Nat} {ty : TypeId} {pos : String} {aft : Array Edge} {x y : Operand} {ts : Array TypeId} {gf : Nat} {vy : Value} {R : Ending → World → Prop} (hx : a.eval x = .func (.func gf) #[] #[]) (hy : a.eval y = vy) (eg : ∀ args w, (callFunc gf args).run P w = .ok (.enter gf args) w) (hc : Calls P gf #[vy] w R)
    (h : ∀ e w', R e w' → ∃ v, e = .returned v ∧ wpListIn (Fence.wide.inRound lo) n P ops Q rest (a.put (some d) v) w') :
    wpListIn (Fence.wide.inRound lo) n P ops Q (⟨some d, .call { callee := .value x, args := #[y], argTypes := ts }, ty, pos, aft, none⟩ :: rest) a w := by
  refine wpListIn_plain rfl fun K hK => ⟨fun _ _ => trivial, ?_⟩
  rw [Oper.semAt_eq _ _ _ (fun _ => by simp)]
  have hr : (execOp a.eval ⟨some d, .call { callee := .value x, args := #[y], argTypes := ts }, ty, pos, aft, none⟩).run P w = .ok (.enter gf #[vy]) w := by
    exact run_callF1 a.eval hx hy eg
  rw [hr]
  refine ⟨fun e => (by cases e), CallsIn.inRound lo (callsIn_wide.2 (hc.mono ?_))⟩
  rintro e w' hR
  obtain ⟨v, rfl, h2⟩ := h e w' hR
  exact hK _ _ h2

theorem eql44 (w : World) : (binOp .eql 44 (.func (.func 16) #[] #[]) .nilFunc).run Try.prog w = .ok (.bool false) w := by
  have h : ∀ d : Nat, (Op.equalIn (d + 1) 44 (.func (.func 16) #[] #[]) .nilFunc).run Try.prog w = .ok false w := fun d => by
    simp [Op.equalIn, run_underlying Try.underlying44]
  simp only [binOp]
  simp [Op.equal, Op.maxDepth, h 9999]

set_option maxRecDepth 100000 in
set_option maxHeartbeats 4000000 in
theorem count_at (w : World) (p : Nat) (v : Value) (l : List EntI) (h : MapI w p v l) (hl : l.length ≤ 1000000) (hsz : ∀ x ∈ l, x.2.size ≤ 1000000) :
    Calls Try.prog 15 #[.pointer (some ⟨p, 0, none⟩), .func (.func 16) #[] #[]] w fun e w' => e = .returned (.int .i64 (cntV l : Nat)) ∧ Kept (fun _ => False) w w' := by
  have HM := hide h
  have HSz := hide hsz
  clear h hsz
  refine (callsIn_wide (n := 4)).1 (callsIn_of_wp_marks Try.func15 rfl trivial (wpIn_wide.2 ?_) rfl)
  simp only [Try.ntmps15, List.size_toArray, List.length_cons, List.length_nil, Nat.reduceAdd, Nat.reduceSub, Array.replicate_succ, Array.replicate_zero, List.push_toArray, List.append_toArray, List.nil_append, List.cons_append]
  obtain ⟨ik, hik, hzk, hsk, hbk⟩ := info_parts Try.info3
  have Hik := hide hik
  have Hzk := hide hzk
  clear hik hzk hsk hbk
  go_wp2_with (first
    | ((with_reducible refine aw_box (t := 44) (v := .func (.func 16) #[] #[]) rfl ?_); intro w1 hb1 hk1 hz1; have Hz1 := hide hz1; clear hz1; have c1 : w1.cell? ⟨w.heap.size, 0, none⟩ = some (.func (.func 16) #[] #[]) := hb1.cell 0; have hq := eql44 w1)
    | ((with_reducible refine aw_alloc (t := 3) Hik.out Hzk.out ?_); intro w2 hb2 hk2 hz2; have Hz2 := hide hz2; clear hz2 c1 hq; have c2 : w2.cell? ⟨w1.heap.size, 0, none⟩ = some (.int .i64 0) := hb2.cell 0; have f2 : w2.frozen? ⟨w1.heap.size, 0, none⟩ = false := hb2.frozen 0)
    | (go_at_call 31; refine (all_atI _ _).mono ?_; rintro e w3 ⟨rfl, hw3⟩; have HW3 := hide hw3; clear hw3))
  have hb2' : Blk (w2.setCell ⟨w1.heap.size, 0, none⟩ (.int .i64 0)) w1.heap.size [.int .i64 0] 3 := hb2.setCell 0 _
  have hks : Kept (fun k => k = w1.heap.size) w2 (w2.setCell ⟨w1.heap.size, 0, none⟩ (.int .i64 0)) := Kept.setCell _ _ _ rfl
  have hss : (w2.setCell ⟨w1.heap.size, 0, none⟩ (.int .i64 0)).heap.size = w2.heap.size := by simp
  generalize w2.setCell ⟨w1.heap.size, 0, none⟩ (.int .i64 0) = w2s at hb2' hks hss HW3
  have hkw3 : Kept (fun _ => False) w2s w3 := by rw [HW3.out]; exact Kept.alloc _ _ _
  have hbm : Blk w3 w2.heap.size [.pointer (some ⟨p, 0, none⟩)] 24 := by
    rw [HW3.out, ← hss]; exact Blk.newA w2s _ _
  have hz3 : w3.heap.size = w2.heap.size + 1 := by rw [HW3.out]; simp [hss]
  have hk02 : Kept (fun _ => False) w w2s := (hk1.trans hk2 (fun _ _ h => h)).trans hks (fun i hi h => by have := Hz1.out; omega)
  have hk03 := hk02.trans hkw3 (fun _ _ h => h)
  have hbn : Blk w3 w1.heap.size [.int .i64 0] 3 := hkw3.blk hb2' (fun h => h)
  have hbi : Blk w3 w.heap.size [.func (.func 16) #[] #[]] 44 := hkw3.blk (hks.blk (hk2.blk hb1 (fun h => h)) (by have := Hz1.out; omega)) (fun h => h)
  have hin : w.heap.size ≠ w1.heap.size := by have := Hz1.out; omega
  have hlt3 : w1.heap.size < w3.heap.size := hbn.lt
  have hw13 : w.heap.size ≤ w1.heap.size := hk1.size
  have HM3 := hide (HM.out.kept hk03 (fun h => h) (fun _ _ h => h))
  clear hb1 hb2 hb2' hks hss hk1 hk2 hkw3 hk02 c2 f2 HM
  refine rangeF (gf := 50) (lb := #[.pointer (some ⟨w2.heap.size, 0, none⟩)]) rfl (enters_of Try.func50 (by kernel_rfl) rfl) (encs := enc1I) (xs := l) (X := footM p v) (fun W hk => all1_atI W _ p v l (hk.blk hbm (fun h => h)) (HM3.out.kept hk (fun h => h) (fun _ _ h => h)) hl) (fun _ => rfl)
    (CountI w w1.heap.size w.heap.size) (fun _ _ _ => False) (CountI.foot w _ _ _ (by have := hk03.size; omega)) (fun _ _ _ _ _ _ h _ _ => h) (fun k => k = w1.heap.size) (fun k hk => by omega) (fun k hk => ⟨?lt, ?ne⟩)
    ⟨hbn, hbi, rfl, hk03⟩
    (fun x a' W' => a' = { tmps := #[.pointer (some ⟨p, 0, none⟩), .func (.func 16) #[] #[], undef, .pointer (some ⟨w.heap.size, 0, none⟩), .int .i64 0, .pointer (some ⟨w1.heap.size, 0, none⟩), undef, .string x.2, .func (.func 16) #[] #[], .bool false, .pointer (some ⟨p, 0, none⟩), .func (.func 50) #[] #[.pointer (some ⟨w2.heap.size, 0, none⟩)], .int .i64 x.1, .string x.2, undef, undef, undef, undef, undef, undef], defers := [] })
    (fun _ _ _ _ _ _ h _ _ => h) ?assign ?body ?done ?stop
  case lt =>
    rcases hk with h | h
    · rw [h]; exact HM3.out.blk.lt
    · exact ownsRow_lt HM3.out.own k h
  case ne =>
    intro e
    rcases hk with h | h
    · exact absurd (e.symm.trans h) (fun e2 => by
        have h1 := HM3.out.blk
        rw [← e2] at h1
        have := (h1.same hbn).2
        cases this)
    · exact ownsRow_blk_ne HM3.out.own hbn (by decide) (by rw [h, e])
  case assign =>
    intro lp n pre x F A K hI hK
    obtain ⟨k, v⟩ := x
    simp only [enc1I]
    have HKK := hide hK
    clear hK
    gi_wp2
    exact HKK.out _ A (Kept.refl _ _) rfl
  case body =>
    rintro lp n pre x post F a' A hxs ⟨hb, hi, rfl, hk⟩ rfl
    obtain ⟨kx, vx⟩ := x
    have hmem : (kx, vx) ∈ l := by rw [hxs]; simp
    have hvx : vx.size ≤ 1000000 := HSz.out _ hmem
    have hcl : cntV pre ≤ 1000000 := by
      have h1 := cntV_le pre
      have h2 : pre.length ≤ l.length := by rw [hxs]; simp
      omega
    have hca := cntV_append pre [(kx, vx)]
    have c0 : A.cell? ⟨w1.heap.size, 0, none⟩ = some (.int .i64 (cntV pre : Nat)) := hb.cell 0
    have f0 : A.frozen? ⟨w1.heap.size, 0, none⟩ = false := hb.frozen 0
    have c1 : A.cell? ⟨w.heap.size, 0, none⟩ = some (.func (.func 16) #[] #[]) := hi.cell 0
    have HB := hide hb
    have HI := hide hi
    clear hb hi hxs hmem
    gi_wp2_with (with_reducible refine stopi_val ?_)
    refine hide ?_
    try simp only [put_lit, List.set_cons_succ, List.set_cons_zero]
    refine ai_c1_in (gf := 16) (vy := .string vx) rfl rfl (enters_of Try.func16 (by kernel_rfl) rfl) (is16 vx A hvx) ?_
    rintro e w4 ⟨rfl, rfl⟩
    refine ⟨_, rfl, ?_⟩
    try simp only [put_lit, List.set_cons_succ, List.set_cons_zero]
    by_cases h2 : 2 < vx.size
    · have hc2 : cntV (pre ++ [(kx, vx)]) = cntV pre + 1 := by rw [hca]; simp [cntV, h2]
      have HC := hide hc2
      have hd : decide (2 < vx.size) = true := by simpa using h2
      rw [hd]
      generalize cntV pre = cn at *
      clear hca hc2 hd
      gi_wp2
      have hks := Kept.setCell (S := fun j => j = w1.heap.size) A ⟨w1.heap.size, 0, none⟩ (.int .i64 ((cn : Int) + 1)) rfl
      refine ⟨fun k => k = w1.heap.size, ⟨?_, hks.blk HI.out hin, rfl, hk.trans hks (fun i hi h => by omega)⟩, hks, fun k h => .inl h⟩
      rw [HC.out]
      have := HB.out.setCell 0 (.int .i64 ((cn : Int) + 1))
      simpa using this
    · have hc2 : cntV (pre ++ [(kx, vx)]) = cntV pre := by rw [hca]; simp [cntV, h2]
      have HC := hide hc2
      have hd : decide (2 < vx.size) = false := by simpa using h2
      rw [hd]
      clear hca hc2 hd
      gi_wp2
      exact ⟨fun k => k = w1.heap.size, ⟨by rw [HC.out]; exact HB.out, HI.out, rfl, hk⟩, Kept.refl _ _, fun k h => .inl h⟩
  case done =>
    rintro D F A hD hI hK
    have hI2 := ownU_put ((CountI.foot w w1.heap.size w.heap.size w3.heap.size (by have := hk03.size; omega)).own _ _) (.deferred none) hI (by omega) hK rfl
    obtain ⟨hb, _, _, hk⟩ := hI
    have c0 : A.cell? ⟨w1.heap.size, 0, none⟩ = some (.int .i64 (cntV l : Nat)) := hb.cell 0
    have HK2 := hide hI2.2.2.2
    clear hI2 hb hk
    go_wp2
    refine ⟨by simp, .inl ⟨_, _, rfl, run_takeDeferred hK, ?_⟩⟩
    exact ⟨_, results_tmp rfl _ _ _, rfl, HK2.out⟩
  case stop =>
    rintro D pre F A hD hpre hJA hK
    exact hJA.elim

end Go.Proofs.Ytkchlmpfegjkfaa
