/-
  Gather.
-/
import Derived.Test.YtbbhchmdggfncaaJ09
namespace Go.Proofs.Ytbbhchmdggfncaa
open Go.RowKit Go.Shelf
set_option linter.unusedSimpArgs false
set_option linter.unusedVariables false
set_option maxRecDepth 100000
attribute [local go_sem] Oper.semAt_some

def gStart (lsn : Int) : GS := ⟨[], ⟨lsn, 0, 0, 0, []⟩⟩
/-- The blocks that Gather changes. -/
def gF (r4 r5 r6 b7 b8 : Nat) (v : Value) : NSet := fun k => k = r4 ∨ k = r5 ∨ k = r6 ∨ k = b7 ∨ k = b8 ∨ v.ownBlock = some k
/-- What holds while Gather goes on. -/
def GI (lsn : Int) (r4 r5 r6 b7 b8 : Nat) (pre : List (List Nat)) (F : NSet) (W : World) : Prop :=
  ∃ s v, gRun (gStart lsn) pre = .inl s ∧ gOk s ∧ F = gF r4 r5 r6 b7 b8 v ∧ Blk W r4 [.slice none 0 0] 22 ∧ Blk W r5 [.int .i64 0] 3 ∧ Blk W r6 [.int .i64 0] 26 ∧ Blk W b7 [v] 22 ∧ Blk W b8 (frV s.nx (.slice none 0 0)) 98 ∧ Own W 0 v s.body
/-- What holds behind its end. -/
def GX (lsn : Int) (r4 r5 r6 b7 b8 : Nat) (pre : List (List Nat)) (F : NSet) (W : World) : Prop :=
  ∃ r v v7 L, gRun (gStart lsn) pre = .inr r ∧ F = gF r4 r5 r6 b7 b8 v ∧ Blk W r4 [v] 22 ∧ Blk W r5 [.int .i64 r.2.1] 3 ∧ Blk W r6 [.int .i64 r.2.2] 26 ∧ Blk W b7 [v7] 22 ∧ Blk W b8 L 98 ∧ Own W 0 v r.1
theorem GI.stab (lsn : Int) (r4 r5 r6 b7 b8 : Nat) (B : Nat) (C : NSet) (pre : List (List Nat)) : Stab B C (GI lsn r4 r5 r6 b7 b8 pre) := by
  refine ⟨?_, ?_⟩
  · rintro F W ⟨s, v, hr, hg, rfl, h4, h5, h6, h7, h8, ho⟩ k (rfl | rfl | rfl | rfl | rfl | h)
    · exact h4.lt
    · exact h5.lt
    · exact h6.lt
    · exact h7.lt
    · exact h8.lt
    · exact ho.lt k h
  · rintro F W W' S ⟨s, v, hr, hg, rfl, h4, h5, h6, h7, h8, ho⟩ hk hS _
    exact ⟨s, v, hr, hg, rfl, hk.blk h4 (fun h => hS _ h (.inl rfl)), hk.blk h5 (fun h => hS _ h (.inr (.inl rfl))), hk.blk h6 (fun h => hS _ h (.inr (.inr (.inl rfl)))), hk.blk h7 (fun h => hS _ h (.inr (.inr (.inr (.inl rfl))))), hk.blk h8 (fun h => hS _ h (.inr (.inr (.inr (.inr (.inl rfl)))))), ho.kept hk (fun k h1 h2 => hS k h2 (.inr (.inr (.inr (.inr (.inr h1))))))⟩
theorem GX.stab (lsn : Int) (r4 r5 r6 b7 b8 : Nat) (B : Nat) (C : NSet) (pre : List (List Nat)) : Stab B C (GX lsn r4 r5 r6 b7 b8 pre) := by
  refine ⟨?_, ?_⟩
  · rintro F W ⟨r, v, v7, L, hr, rfl, h4, h5, h6, h7, h8, ho⟩ k (rfl | rfl | rfl | rfl | rfl | h)
    · exact h4.lt
    · exact h5.lt
    · exact h6.lt
    · exact h7.lt
    · exact h8.lt
    · exact ho.lt k h
  · rintro F W W' S ⟨r, v, v7, L, hr, rfl, h4, h5, h6, h7, h8, ho⟩ hk hS _
    exact ⟨r, v, v7, L, hr, rfl, hk.blk h4 (fun h => hS _ h (.inl rfl)), hk.blk h5 (fun h => hS _ h (.inr (.inl rfl))), hk.blk h6 (fun h => hS _ h (.inr (.inr (.inl rfl)))), hk.blk h7 (fun h => hS _ h (.inr (.inr (.inr (.inl rfl))))), hk.blk h8 (fun h => hS _ h (.inr (.inr (.inr (.inr (.inl rfl)))))), ho.kept hk (fun k h1 h2 => hS k h2 (.inr (.inr (.inr (.inr (.inr h1))))))⟩

/-- Gather's blocks. -/
structure GM (r4 r5 r6 b7 b8 : Nat) (v4 v5 v6 v7 : Value) (L8 : List Value) (W : World) : Prop where
  m4 : Blk W r4 [v4] 22
  m5 : Blk W r5 [v5] 3
  m6 : Blk W r6 [v6] 26
  m7 : Blk W b7 [v7] 22
  m8 : Blk W b8 L8 98
  ne : r4 ≠ b7
section
variable {r4 r5 r6 b7 b8 : Nat} {v4 v5 v6 v7 : Value} {L8 : List Value} {W W' : World}
theorem GM.kept {S : NSet} (h : GM r4 r5 r6 b7 b8 v4 v5 v6 v7 L8 W) (hk : Kept S W W') (hS : ∀ k, (k = r4 ∨ k = r5 ∨ k = r6 ∨ k = b7 ∨ k = b8) → ¬ S k) : GM r4 r5 r6 b7 b8 v4 v5 v6 v7 L8 W' :=
  ⟨hk.blk h.m4 (hS _ (.inl rfl)), hk.blk h.m5 (hS _ (.inr (.inl rfl))), hk.blk h.m6 (hS _ (.inr (.inr (.inl rfl)))), hk.blk h.m7 (hS _ (.inr (.inr (.inr (.inl rfl))))), hk.blk h.m8 (hS _ (.inr (.inr (.inr (.inr rfl))))), h.ne⟩
theorem GM.set4 {v : Value} (h : GM r4 r5 r6 b7 b8 v4 v5 v6 v7 L8 W) (hb : Blk W' r4 [v] 22) (hk : Kept (fun k => k = r4) W W') : GM r4 r5 r6 b7 b8 v v5 v6 v7 L8 W' :=
  ⟨hb, hk.blk h.m5 (h.m5.ne h.m4 (by decide)), hk.blk h.m6 (h.m6.ne h.m4 (by decide)), hk.blk h.m7 (fun e => h.ne e.symm), hk.blk h.m8 (h.m8.ne h.m4 (by decide)), h.ne⟩
theorem GM.set5 {v : Value} (h : GM r4 r5 r6 b7 b8 v4 v5 v6 v7 L8 W) (hb : Blk W' r5 [v] 3) (hk : Kept (fun k => k = r5) W W') : GM r4 r5 r6 b7 b8 v4 v v6 v7 L8 W' :=
  ⟨hk.blk h.m4 (h.m4.ne h.m5 (by decide)), hb, hk.blk h.m6 (h.m6.ne h.m5 (by decide)), hk.blk h.m7 (h.m7.ne h.m5 (by decide)), hk.blk h.m8 (h.m8.ne h.m5 (by decide)), h.ne⟩
theorem GM.set6 {v : Value} (h : GM r4 r5 r6 b7 b8 v4 v5 v6 v7 L8 W) (hb : Blk W' r6 [v] 26) (hk : Kept (fun k => k = r6) W W') : GM r4 r5 r6 b7 b8 v4 v5 v v7 L8 W' :=
  ⟨hk.blk h.m4 (h.m4.ne h.m6 (by decide)), hk.blk h.m5 (h.m5.ne h.m6 (by decide)), hb, hk.blk h.m7 (h.m7.ne h.m6 (by decide)), hk.blk h.m8 (h.m8.ne h.m6 (by decide)), h.ne⟩
theorem GM.set7 {v : Value} (h : GM r4 r5 r6 b7 b8 v4 v5 v6 v7 L8 W) (hb : Blk W' b7 [v] 22) (hk : Kept (fun k => k = b7) W W') : GM r4 r5 r6 b7 b8 v4 v5 v6 v L8 W' :=
  ⟨hk.blk h.m4 h.ne, hk.blk h.m5 (h.m5.ne h.m7 (by decide)), hk.blk h.m6 (h.m6.ne h.m7 (by decide)), hb, hk.blk h.m8 (h.m8.ne h.m7 (by decide)), h.ne⟩
theorem GM.set8 {L : List Value} (h : GM r4 r5 r6 b7 b8 v4 v5 v6 v7 L8 W) (hb : Blk W' b8 L 98) (hk : Kept (fun k => k = b8) W W') : GM r4 r5 r6 b7 b8 v4 v5 v6 v7 L W' :=
  ⟨hk.blk h.m4 (h.m4.ne h.m8 (by decide)), hk.blk h.m5 (h.m5.ne h.m8 (by decide)), hk.blk h.m6 (h.m6.ne h.m8 (by decide)), hk.blk h.m7 (h.m7.ne h.m8 (by decide)), hb, h.ne⟩
theorem gF_nil {vo : Value} {k : Nat} (h : gF r4 r5 r6 b7 b8 (.slice none 0 0) k) : gF r4 r5 r6 b7 b8 vo k := by
  rcases h with h | h | h | h | h | h
  · exact .inl h
  · exact .inr (.inl h)
  · exact .inr (.inr (.inl h))
  · exact .inr (.inr (.inr (.inl h)))
  · exact .inr (.inr (.inr (.inr (.inl h))))
  · simp [Value.ownBlock] at h
theorem gF_own {vo v2 : Value} {G : NSet} {N k : Nat} (hm : ∀ k, v2.ownBlock = some k → vo.ownBlock = some k ∨ N ≤ k) (h : gF r4 r5 r6 b7 b8 v2 k) : gF r4 r5 r6 b7 b8 vo k ∨ G k ∨ N ≤ k := by
  rcases h with h | h | h | h | h | h
  · exact .inl (.inl h)
  · exact .inl (.inr (.inl h))
  · exact .inl (.inr (.inr (.inl h)))
  · exact .inl (.inr (.inr (.inr (.inl h))))
  · exact .inl (.inr (.inr (.inr (.inr (.inl h)))))
  · rcases hm k h with h | h
    · exact .inl (.inr (.inr (.inr (.inr (.inr h)))))
    · exact .inr (.inr h)
end
theorem this_ct {a b : Int} {B : List Nat} (h : a = b) : (Sum.inr (B, b, 0) : GS ⊕ GR) = .inr (B, a, 0) := by rw [h]
/-- A region that draws, within a round. -/
theorem region_Sin {P : Program} {ops : Array Oper} {Q : Exit → Act → World → Prop} {a : Act} {w : World} {id lo n : Nat} (m : Nat) (hm : P.follows .mixedOrders = true) (hQ : ¬ LetsOut Q) (hnd : ops.all (fun o => match o.op with | .defer _ => false | _ => true) = true)
    (h : ∀ w', Kept (fun _ => False) w w' → w'.heap = w.heap → ∃ S : World → Prop, wpAnyM P .any ops Q S m ops.size (Array.replicate ops.size false) a w') : (Code.region id ops true).wpIn (Fence.wide.inRound lo) n P Q a w := by
  obtain ⟨S, h⟩ := h { w with drawn := w.drawn + 1 } ⟨rfl, rfl, rfl, Nat.le_refl _, fun _ _ _ => rfl⟩ rfl
  refine wpIn_region_any hm (wpAnyIn_of_wpAny hQ ?_ _ _ _ _ (wpAny_of_M _ _ _ _ h))
  intro i o ho c e
  have := Array.all_eq_true'.1 hnd o (Array.mem_of_getElem? ho)
  rw [e] at this
  cases this
section
variable {ρ : Operand → Value} {w : World} {dst : Option Tmp} {ty : TypeId} {pos : String} {aft : Array Edge} {gd : Option (Nat × Bool)} {x : Operand}
theorem r_fld24 {b : Nat} (o : Nat) (ho : o < 5) (hx : ρ x = .pointer (some ⟨b, 0, none⟩)) : (execOp ρ ⟨dst, .fieldAddr 98 x o, ty, pos, aft, gd⟩).run Try.prog w = .ok (.value (.pointer (some ⟨b, o, none⟩))) w := by
  match o, ho with
  | 0, _ => go_simp
  | 1, _ => go_simp
  | 2, _ => go_simp
  | 3, _ => go_simp
  | 4, _ => go_simp
theorem r_ld22 {b o : Nat} {v : Value} (hx : ρ x = .pointer (some ⟨b, o, none⟩)) (hc : w.cell? ⟨b, o, none⟩ = some v) : (execOp ρ ⟨dst, .load 22 x, ty, pos, aft, gd⟩).run Try.prog w = .ok (.value v) w := by
  go_simp
end
theorem keptC {w w8 A : World} {F0 C : NSet} (h1 : Kept (fun _ => False) w w8) (h2 : Kept (fun k => F0 k ∨ C k) w8 A) (hF : ∀ k, F0 k → w.heap.size ≤ k) : Kept C w A :=
  (h1.mono (T := C) (fun _ _ h => h.elim)).trans h2 (fun k hk h => h.elim (fun h => by have := hF k h; omega) id)
theorem loadVar1 {t : TypeId} {b : Nat} {v : Value} {e : TypeId} {w : World} (ht : (isAgg t).run Try.prog w = .ok false w) (hb : Blk w b [v] e) : (loadVar t ⟨b, 0, none⟩).run Try.prog w = .ok v w := by
  have hc : w.cell? ⟨b, 0, none⟩ = some v := hb.cell 0
  simp [loadVar, ht, go_sem, hc]
theorem results_cell3 {fn : Func} {tmps : Array Value} {w : World} {b4 b5 b6 : Nat} {v4 v5 v6 : Value} (h : fn.results = #[.cell 4 22, .cell 5 3, .cell 6 26]) (h4 : tmps.getD 4 undef = .pointer (some ⟨b4, 0, none⟩)) (h5 : tmps.getD 5 undef = .pointer (some ⟨b5, 0, none⟩)) (h6 : tmps.getD 6 undef = .pointer (some ⟨b6, 0, none⟩)) (hb4 : Blk w b4 [v4] 22) (hb5 : Blk w b5 [v5] 3) (hb6 : Blk w b6 [v6] 26) :
    (results fn tmps).run Try.prog w = .ok (.tuple #[v4, v5, v6]) w := by
  have k4 := loadVar1 (t := 22) (by simp [isAgg, go_sem]) hb4
  have k5 := loadVar1 (t := 3) (by simp [isAgg, go_sem]) hb5
  have k6 := loadVar1 (t := 26) (by simp [isAgg, go_sem]) hb6
  simp only [Array.getD_eq_getD_getElem?] at h4 h5 h6
  simp [results, h, h4, h5, h6, k4, k5, k6, asAddr]
theorem built24_1 (a : Int) : Try.prog.built 98 [(0, .int .i64 a)] = some #[.int .i64 a, .int .i64 0, .int .i64 0, .int .i64 0, .slice none 0 0] := by rfl
theorem r_build24_1 {ρ : Operand → Value} {w : World} {dst : Option Tmp} {ty : TypeId} {pos : String} {aft : Array Edge} {gd : Option (Nat × Bool)} {x0 : Operand} {a : Int} (h0 : ρ x0 = .int .i64 a) :
    (execOp ρ ⟨dst, .build 98 #[(0, x0)], ty, pos, aft, gd⟩).run Try.prog w = .ok (.value (.agg (frV ⟨a, 0, 0, 0, []⟩ (.slice none 0 0)).toArray)) w := by
  have hr := run_build (P := Try.prog) w 98 #[(0, .int .i64 a)] _ (by simpa using built24_1 a)
  simp [execOp, h0, hr, frV]
theorem ai_c1_in {n lo : Nat} {P : Program} {ops : Array Oper} {Q : Exit → Act → World → Prop} {a : Act} {w : World} {rest : List Oper} {d : Nat} {ty : TypeId} {pos : String} {aft : Array Edge} {x y : Operand} {ts : Array TypeId} {gf : Nat} {vy : Value} {R : Ending → World → Prop} (hx : a.eval x = .func (.func gf) #[] #[]) (hy : a.eval y = vy) (eg : ∀ args w, (callFunc gf args).run P w = .ok (.enter gf args) w) (hc : Calls P gf #[vy] w R)
    (h : ∀ e w', R e w' → ∃ v, e = .returned v ∧ wpListIn (Fence.wide.inRound lo) n P ops Q rest (a.put (some d) v) w') :
    wpListIn (Fence.wide.inRound lo) n P ops Q (⟨some d, .call { callee := .value x, args := #[y], argTypes := ts }, ty, pos, aft, none⟩ :: rest) a w := by
  refine wpListIn_plain rfl fun K hK => ⟨fun _ _ => trivial, ?_⟩
  rw [Oper.semAt_eq _ _ _ (fun _ => by simp)]
  rw [run_cF1 a.eval hx hy eg]
  refine ⟨fun e => (by cases e), CallsIn.inRound lo (callsIn_wide.2 (hc.mono ?_))⟩
  rintro e w' hR
  obtain ⟨v, rfl, h2⟩ := h e w' hR
  exact hK _ _ h2

set_option maxRecDepth 100000 in
set_option maxHeartbeats 4000000 in
theorem gather_at (w : World) (lsn : Int) (sv : Value) (X C : NSet) (xs : List (List Nat)) (Post : Bool → List (List Nat) → World → Prop) (hs : SeqOk Try.prog sv (EC X) xs X C Post w) (hfn : IsFn sv) (hlsn : 0 ≤ lsn ∧ lsn ≤ 4611686018427387903) (hlen : ∀ x ∈ xs, x.length ≤ 90000000) :
    Calls Try.prog 60 #[.int .i64 lsn, sv] w fun e w' => ∃ v pre b, e = .returned (.tuple #[v, .int .i64 (gEnd (gRun (gStart lsn) xs)).2.1, .int .i64 (gEnd (gRun (gStart lsn) xs)).2.2]) ∧ Src w' v (gEnd (gRun (gStart lsn) xs)).1 ∧ Kept C w w' ∧ Post b pre w' ∧ (∃ post, xs = pre ++ post) ∧ (pre = xs ∨ ∃ r, gRun (gStart lsn) pre = .inr r) := by
  obtain ⟨i22, hi22, hz22, hs22, hb22⟩ := info_parts Try.info22
  obtain ⟨i3, hi3, hz3, hs3, hb3⟩ := info_parts Try.info3
  obtain ⟨i28, hi28, hz28, hs28, hb28⟩ := info_parts Try.info26
  obtain ⟨i24, hi24, hz24, hs24, hb24⟩ := info_parts Try.info98
  have Hi22 := hide hi22
  have Hz22 := hide hz22
  have Hs22 := hide hs22
  have Hi3 := hide hi3
  have Hz3 := hide hz3
  have Hs3 := hide hs3
  have Hi28 := hide hi28
  have Hz28 := hide hz28
  have Hs28 := hide hs28
  have Hi24 := hide hi24
  have Hz24 := hide hz24
  have HS := hide hs
  have Hfn := hide hfn
  have Hlen := hide hlen
  have HW := hide (within_at · lsn 4611686018427387903 true (by simpa using hlsn))
  have Hlsn := hide hlsn
  have HO := hide (frV_one ⟨lsn, 0, 0, 0, []⟩ none 0 0)
  have hcells := hs.cells
  have Hcells := hide hcells
  clear hi22 hz22 hs22 hb22 hi3 hz3 hs3 hb3 hi28 hz28 hs28 hb28 hi24 hz24 hs24 hb24 hs hlen hlsn hcells
  obtain ⟨sf, sl, rfl⟩ := hfn
  refine (callsIn_wide (n := 4)).1 (callsIn_of_wp_marks Try.func60 rfl trivial (wpIn_wide.2 ?_) rfl)
  simp only [Try.ntmps60, List.size_toArray, List.length_cons, List.length_nil, Nat.reduceAdd, Nat.reduceSub, Array.replicate_succ, Array.replicate_zero, List.push_toArray, List.append_toArray, List.nil_append, List.cons_append]
  go_wp2_with (first
    | ((with_reducible refine aw_alloc (dst := some 4) (t := 22) Hi22.out Hz22.out ?_); intro w1 hb1 hk1 hz1; have Hz1 := hide hz1; clear hz1)
    | ((with_reducible refine aw_alloc (dst := some 5) (t := 3) Hi3.out Hz3.out ?_); intro w2 hb2 hk2 hz2; have Hz2 := hide hz2; clear hz2)
    | ((with_reducible refine aw_alloc (dst := some 6) (t := 26) Hi28.out Hz28.out ?_); intro w3 hb3 hk3 hz3; have Hz3' := hide hz3; clear hz3)
    | fail)
  refine (HW.out w3).mono ?_
  rintro e w4 ⟨rfl, rfl⟩
  have hB4 : Blk w3 w.heap.size [.slice none 0 0] 22 := hk3.blk (hk2.blk hb1 (fun h => h)) (fun h => h)
  have hB5 : Blk w3 w1.heap.size [.int .i64 0] 3 := hk3.blk hb2 (fun h => h)
  have hB6 : Blk w3 w2.heap.size [.int .i64 0] 26 := hb3
  have hk03 : Kept (fun _ => False) w w3 := (hk1.trans hk2 (fun _ _ h => h)).trans hk3 (fun _ _ h => h)
  obtain ⟨r4, hr4⟩ : ∃ r, r = w.heap.size := ⟨_, rfl⟩
  obtain ⟨r5, hr5⟩ : ∃ r, r = w1.heap.size := ⟨_, rfl⟩
  obtain ⟨r6, hr6⟩ : ∃ r, r = w2.heap.size := ⟨_, rfl⟩
  have hw4 : w.heap.size ≤ r4 := by omega
  have hw5 : w.heap.size ≤ r5 := by have := hk1.size; omega
  have hw6 : w.heap.size ≤ r6 := by have := hk1.size; have := hk2.size; omega
  rw [← hr4] at hB4 ⊢
  rw [← hr5] at hB5 ⊢
  rw [← hr6] at hB6 ⊢
  have HB4 := hide hB4
  have HB5 := hide hB5
  have HB6 := hide hB6
  have HK3 := hide hk03
  clear hB4 hB5 hB6 hb1 hb2 hb3 hk1 hk2 hk3 hk03 hr4 hr5 hr6 Hz1 Hz2 Hz3' HW
  go_wp2_with (first
    | ((with_reducible refine aw_alloc (dst := some 7) (t := 22) Hi22.out Hz22.out ?_); intro w5 hb5 hk5 hz5; have Hz5 := hide hz5; clear hz5)
    | (with_reducible refine stop_build 98 ?_)
    | fail)
  refine hide ?_
  refine wpList_run rfl (r_build24_1 rfl) ?_
  obtain ⟨b7, hb7⟩ : ∃ b, b = w3.heap.size := ⟨_, rfl⟩
  have HB7 : Hid (Blk w5 b7 [.slice none 0 0] 22) := hide (by rw [hb7]; exact hb5)
  have hw7 : w.heap.size ≤ b7 := by have := HK3.out.size; omega
  have hne47 : r4 ≠ b7 := by have := HB4.out.lt; omega
  rw [← hb7]
  have HB4' := hide (hk5.blk HB4.out (fun h => h))
  have HB5' := hide (hk5.blk HB5.out (fun h => h))
  have HB6' := hide (hk5.blk HB6.out (fun h => h))
  have HK5 := hide (HK3.out.trans hk5 (fun _ _ h => h))
  clear hb5 hk5 hb7 Hz5 HB4 HB5 HB6 HK3
  go_wp2_with (first
    | ((with_reducible refine aw_alloc (dst := some 8) (t := 98) Hi24.out Hz24.out ?_); intro w6 hb6 hk6 hz6)
    | ((with_reducible refine aw_store (x := .tmp 8) (M := frV ⟨lsn, 0, 0, 0, []⟩ (.slice none 0 0)) Try.agg98 rfl rfl rfl HO.out hb6 (by simp [Value.cells]) ?_); intro w7 hw7 hk7 hz7; rw [put_whole _ _ (by simp [Value.cells, frV])] at hw7)
    | fail)
  have hk57 : Kept (fun _ => False) w5 w7 := hk6.trans hk7 (fun i hi h => by omega)
  obtain ⟨b8, hb8⟩ : ∃ b, b = w5.heap.size := ⟨_, rfl⟩
  rw [← hb8] at hw7 ⊢
  have hw8 : w.heap.size ≤ b8 := by have := HK5.out.size; omega
  have HB8 := hide hw7
  have HB4 := hide (hk57.blk HB4'.out (fun h => h))
  have HB5 := hide (hk57.blk HB5'.out (fun h => h))
  have HB6 := hide (hk57.blk HB6'.out (fun h => h))
  have HB7' := hide (hk57.blk HB7.out (fun h => h))
  have HK7 := hide (HK5.out.trans hk57 (fun _ _ h => h))
  clear hw7 hk6 hk7 hz6 hz7 hb6 hk57 hb8 HB4' HB5' HB6' HB7 HK5
  refine (tame_at w7 _ Hcells.out).mono ?_
  rintro e w8 ⟨bs, rfl, hbs, hk8, hbs8⟩
  have HT := hide (tame_ok (HS.out.kept (HK7.out.trans hk8 (fun _ _ h => h)) (fun _ h => h.elim)) Hfn.out hbs (fun h => by have := HS.out.lt _ (.inr h); have := HK7.out.size; omega))
  have HB4'' := hide (hk8.blk HB4.out (fun h => h))
  have HB5'' := hide (hk8.blk HB5.out (fun h => h))
  have HB6'' := hide (hk8.blk HB6.out (fun h => h))
  have HB7'' := hide (hk8.blk HB7'.out (fun h => h))
  have HB8'' := hide (hk8.blk HB8.out (fun h => h))
  have HK8 := hide (HK7.out.trans hk8 (fun _ _ h => h))
  have hnb : r4 < bs ∧ r5 < bs ∧ r6 < bs ∧ b7 < bs ∧ b8 < bs := ⟨by have := HB4.out.lt; omega, by have := HB5.out.lt; omega, by have := HB6.out.lt; omega, by have := HB7'.out.lt; omega, by have := HB8.out.lt; omega⟩
  clear hbs hk8 hbs8 HB4 HB5 HB6 HB7' HB8 HK7
  have HB8s : Hid (Blk w8 b8 (frV (gStart lsn).nx (.slice none 0 0)) 98) := HB8''
  go_wp2_with fail
  refine rangeFS (gf := 87) (lb := #[.pointer (some ⟨bs, 0, none⟩)]) rfl HT.out rfl (GI lsn r4 r5 r6 b7 b8) (GX lsn r4 r5 r6 b7 b8) (GI.stab _ _ _ _ _ _ _ _) (GX.stab _ _ _ _ _ _ _ _) (gF r4 r5 r6 b7 b8 (.slice none 0 0)) ?F0
    ⟨gStart lsn, .slice none 0 0, rfl, ?ok, rfl, HB4''.out, HB5''.out, HB6''.out, HB7''.out, HB8s.out, Own.nil _ _⟩
    (fun x v a' W' => ∃ u16, a' = { tmps := #[.int .i64 lsn, .func sf #[] sl, undef, undef, .pointer (some ⟨r4, 0, none⟩), .pointer (some ⟨r5, 0, none⟩), .pointer (some ⟨r6, 0, none⟩), .pointer (some ⟨b7, 0, none⟩), .pointer (some ⟨b8, 0, none⟩), v, undef, undef, .int .i64 lsn, .bool true, .bool false, .int .i64 lsn, u16, .func sf #[] sl, .func (.func 87) #[] #[.pointer (some ⟨bs, 0, none⟩)], v, undef, undef, undef, undef, undef, undef, undef, undef, undef, undef, undef, undef, undef, undef, undef, undef, undef, undef, undef, undef, undef, undef, undef, undef, undef, undef, undef, undef, undef, undef, undef, undef, undef, undef, undef, undef, undef, undef, undef, undef, undef], defers := [] })
    (fun _ _ _ _ _ _ _ h _ _ => h) ?assign ?body ?done ?stop
  case F0 =>
    have hX := HS.out.lt
    have hB : ∀ k, gF r4 r5 r6 b7 b8 (.slice none 0 0) k → w.heap.size ≤ k ∧ k < bs := by
      rintro k (h | h | h | h | h | h)
      · omega
      · omega
      · omega
      · omega
      · omega
      · simp [Value.ownBlock] at h
    intro k hk
    have h1 := hB k hk
    refine ⟨?_, fun h => ?_⟩
    · rintro (h | h)
      · have := hX k (.inl h); omega
      · omega
    · have := hX k (.inr h); omega
  case ok =>
    have := Hlsn.out
    refine ⟨?_, ?_, ?_, ?_, ?_, ?_, ?_, rfl⟩ <;> simp [gStart] <;> omega
  case assign =>
    intro lp n pre x v F G A K hI hE hK
    have HKK := hide hK
    clear hK
    gi_wp2
    exact HKK.out _ A (Kept.refl _ _) ⟨_, rfl⟩
  case body =>
    rintro lp n pre x post v F G a' A hxs ⟨s, vo, hr, hg, rfl, h4, h5, h6, h7, h8, ho⟩ hwA hF hE hG ⟨u16, rfl⟩
    have HGt := hide (get_at A v x hE.1 (Hlen.out x (by rw [hxs]; simp)))
    have Hsn := hide (gRun_snoc x pre (gStart lsn))
    rw [hr] at Hsn
    obtain ⟨f, hf⟩ : ∃ f, f = (getN x).1 := ⟨_, rfl⟩
    obtain ⟨er, her⟩ : ∃ er, er = (getN x).2 := ⟨_, rfl⟩
    have Hright : Hid (er = 0 → rightN f = true) := hide (fun h => by rw [hf]; exact getN_right (by rw [← her]; exact h))
    have Hstep : Hid (gRun (gStart lsn) (pre ++ [x]) = if er ≠ 0 then .inr ([], 0, er) else if comesN f (nxN s.nx f) = false then .inr ([], 0, 20) else if s.nx.ix + 1 = (nxN s.nx f).ct then .inr (s.body ++ f.B, (nxN s.nx f).ct, 0) else .inl ⟨s.body ++ f.B, ⟨s.nx.lsn + 1, (nxN s.nx f).ep, s.nx.ix + 1, (nxN s.nx f).ct, []⟩⟩) := hide (by rw [Hsn.out, hf, her]; rfl)
    have Hok : Hid (∀ s', gRun (gStart lsn) (pre ++ [x]) = .inl s' → gOk s') := hide (fun s' h => by rw [Hsn.out] at h; exact gStep_ok hg h)
    rw [← hf, ← her] at HGt
    clear hf her hr Hsn hE hxs
    have h47 : r4 ≠ b7 := hne47
    have h45 : r4 ≠ r5 := h4.ne h5 (by decide)
    have h46 : r4 ≠ r6 := h4.ne h6 (by decide)
    have h48 : r4 ≠ b8 := h4.ne h8 (by decide)
    have h56 : r5 ≠ r6 := h5.ne h6 (by decide)
    have h57 : r5 ≠ b7 := h5.ne h7 (by decide)
    have h58 : r5 ≠ b8 := h5.ne h8 (by decide)
    have h67 : r6 ≠ b7 := h6.ne h7 (by decide)
    have h68 : r6 ≠ b8 := h6.ne h8 (by decide)
    have h78 : b7 ≠ b8 := h7.ne h8 (by decide)
    obtain ⟨sn, hsn⟩ : ∃ sn, sn = s.nx := ⟨_, rfl⟩
    have hgk := hg
    unfold gOk at hgk
    rw [← hsn] at h8 Hstep hgk
    have Hgk := hide hgk
    have Hsn := hide hsn
    have HH4 := hide h4
    have HH5 := hide h5
    have HH6 := hide h6
    have HH7 := hide h7
    have HH8 := hide h8
    have HHo := hide ho
    have HG := hide hG
    clear hg hgk hsn h4 h5 h6 h7 h8 ho hG hF
    gi_wp2_with (with_reducible refine stopi_val ?_)
    refine hide ?_
    try simp only [put_lit, List.set_cons_succ, List.set_cons_zero]
    refine ai_c1_in (gf := 63) (vy := v) rfl rfl (enters_of Try.func63 (by kernel_rfl) rfl) HGt.out ?_
    rintro e A1 ⟨vb, rfl, hsv, hkA1⟩
    refine ⟨_, rfl, ?_⟩
    obtain ⟨bo, cb, rfl⟩ := hsv.slice
    obtain ⟨ln, hln⟩ : ∃ ln, ln = f.B.length := ⟨_, rfl⟩
    rw [← hln] at hsv ⊢
    have HOf := hide (frV_one f bo ln cb)
    have Hln := hide hln
    have HSv := hide hsv
    have HKA1 := hide hkA1
    clear hsv hln hkA1 HGt
    try simp only [put_lit, List.set_cons_succ, List.set_cons_zero]
    gi_wp2_with (first
      | ((with_reducible refine ai_alloc (t := 98) Hi24.out Hz24.out ?_); intro A2 hb2 hk2 hz2; have Hz2 := hide hz2; clear hz2)
      | (with_reducible refine stopi_store 98 ?_))
    refine hide ?_
    have hbfA : A1.heap.size ≠ b8 := by have := HH8.out.lt; have := HKA1.out.size; omega
    refine ai_store (x := .tmp 10) (M := frV f (.slice bo ln cb)) Try.agg98 rfl rfl rfl HOf.out hb2 (by simp [Value.cells]) ?_
    intro A3 hb3 hk3 hz3
    rw [put_whole _ _ (by simp [Value.cells, frV])] at hb3
    have hk13 : Kept (fun _ => False) A1 A3 := hk2.trans hk3 (fun i hi h => by omega)
    have hkA3 : Kept (fun _ => False) A A3 := HKA1.out.trans hk13 (fun _ _ h => h)
    obtain ⟨bf, hbf⟩ : ∃ bf, bf = A1.heap.size := ⟨_, rfl⟩
    rw [← hbf] at hb3 hbfA ⊢
    have hf8 : bf ≠ b8 := hbfA
    have HM3 : Hid (GM r4 r5 r6 b7 b8 (.slice none 0 0) (.int .i64 0) (.int .i64 0) vo (frV sn (.slice none 0 0)) A3) := hide (GM.kept ⟨HH4.out, HH5.out, HH6.out, HH7.out, HH8.out, h47⟩ hkA3 (fun _ _ h => h))
    have HBf := hide hb3
    have HO3 := hide (HHo.out.kept hkA3 (fun _ _ h => h))
    have HSv3 := hide (HSv.out.kept hk13)
    have HK3 : Hid (Kept (gF r4 r5 r6 b7 b8 vo) A A3) := hide (hkA3.mono (fun _ _ h => h.elim))
    clear hb2 hk2 hb3 hk3 hz3 hk13 hkA3 hbf hbfA HH4 HH5 HH6 HH7 HH8 HHo HSv HKA1 Hz2 HOf
    try simp only [put_lit, put_none, List.set_cons_succ, List.set_cons_zero]
    by_cases her : er = 0
    case neg =>
      have herb : (er != 0) = true := by simpa using her
      have Her := hide her
      clear her
      gi_wp2_with (with_reducible refine stopi_store 22 ?_)
      refine hide ?_
      try simp only [put_lit, put_none, List.set_cons_succ, List.set_cons_zero]
      refine ai_store1 (v := .slice none 0 0) Hi22.out Hs22.out rfl rfl rfl rfl HM3.out.m4 (by simp [frV]) ?_
      intro Ae1 hbe1 hke1 hze1
      have HMe1 := hide (HM3.out.set4 hbe1 hke1)
      have HKe1 := hide (HK3.out.trans hke1 (fun i hi h => .inl h))
      clear hbe1 hke1 hze1 HM3 HK3
      try simp only [put_lit, put_none, List.set_cons_succ, List.set_cons_zero]
      gi_wp2_with (with_reducible refine stopi_store 3 ?_)
      refine hide ?_
      try simp only [put_lit, put_none, List.set_cons_succ, List.set_cons_zero]
      refine ai_store1 (v := .int .i64 0) Hi3.out Hs3.out rfl rfl rfl rfl HMe1.out.m5 (by simp [frV]) ?_
      intro Ae2 hbe2 hke2 hze2
      have HMe2 := hide (HMe1.out.set5 hbe2 hke2)
      have HKe2 := hide (HKe1.out.trans hke2 (fun i hi h => .inr (.inl h)))
      clear hbe2 hke2 hze2 HMe1 HKe1
      try simp only [put_lit, put_none, List.set_cons_succ, List.set_cons_zero]
      gi_wp2_with (with_reducible refine stopi_store 26 ?_)
      refine hide ?_
      try simp only [put_lit, put_none, List.set_cons_succ, List.set_cons_zero]
      refine ai_store1 (v := .int .i64 er) Hi28.out Hs28.out rfl rfl rfl rfl HMe2.out.m6 (by simp [frV]) ?_
      intro Ae3 hbe3 hke3 hze3
      have HMe3 := hide (HMe2.out.set6 hbe3 hke3)
      have HKe3 := hide (HKe2.out.trans hke3 (fun i hi h => .inr (.inr (.inl h))))
      clear hbe3 hke3 hze3 HMe2 HKe2
      try simp only [put_lit, put_none, List.set_cons_succ, List.set_cons_zero]
      gi_wp2
      refine ⟨gF r4 r5 r6 b7 b8 (.slice none 0 0), ⟨([], 0, er), .slice none 0 0, _, _, by rw [Hstep.out, if_pos Her.out], rfl, HMe3.out.m4, HMe3.out.m5, HMe3.out.m6, HMe3.out.m7, HMe3.out.m8, Own.nil _ _⟩, HKe3.out.mono (fun _ _ h => .inl h), fun k h => .inl (gF_nil h)⟩
    case pos =>
      subst her
      have Hrf := hide (Hright.out rfl)
      clear Hright
      have c82 : A3.cell? ⟨b8, 2, none⟩ = some (.int .i64 sn.ix) := HM3.out.m8.cell 2
      by_cases hix : sn.ix = 0
      · have hixb : (sn.ix == 0) = true := by simpa using hix
        have Hnx : Hid (frV (nxN sn f) (.slice none 0 0) = ((frV sn (.slice none 0 0)).set 1 (.int .i64 f.ep)).set 3 (.int .i64 f.ct)) := hide (by unfold nxN; rw [if_pos hix]; rfl)
        clear hix
        gi_wp2
        clear c82 hixb
        refine hold_frame (p := fun fr => Code.wpIn (Fence.wide.inRound lp) n Try.prog _ _ fr _) ?_
        intro fr hfr
        have e8 : fr.eval (.tmp 8) = .pointer (some ⟨b8, 0, none⟩) := by rw [hfr.out]; rfl
        have e10 : fr.eval (.tmp 10) = .pointer (some ⟨bf, 0, none⟩) := by rw [hfr.out]; rfl
        have hts : fr.tmps.size = 61 := by rw [hfr.out]; rfl
        refine region_Sin 99 Try.mixed (fun ⟨_, _, h⟩ => h) (by kernel_rfl) ?_
        intro w0 hkw hheap
        have HMw := hide (HM3.out.kept hkw (fun _ _ h => h))
        have HBw := hide (hkw.blk HBf.out (fun h => h))
        have HOw := hide (HO3.out.kept hkw (fun _ _ h => h))
        have HSw := hide (HSv3.out.kept hkw)
        have HKw := hide (HK3.out.trans hkw (fun _ _ h => h.elim))
        clear HM3 HBf HO3 HSv3 HK3
        have hS0 := Kept.refl (fun k => k = b8) w0
        refine ⟨Kept (fun k => k = b8) w0, ?_⟩
        refine tkS 0 31 (v := .pointer (some ⟨bf, 1, none⟩)) hS0 rfl rfl (by kernel_rfl) (by kernel_rfl) (by kernel_rfl) (by kernel_rfl) (wanted_none rfl) (fun _ _ _ h => h) (fun U hU => r_fld24 (o := 1) (by decide) (by simp [eval_put_ne, eval_put_eq, size_put, hts, e10])) ?_
        refine tkS 1 32 (v := .int .i64 f.ep) hS0 rfl rfl (by kernel_rfl) (by kernel_rfl) (by kernel_rfl) (by kernel_rfl) (wanted_none rfl) (fun _ _ _ h => h) (fun U hU => r_ld3 (b := bf) (o := 1) (by simp [eval_put_ne, eval_put_eq, size_put, hts]) ((hU.blk HBw.out hf8).cell 1)) ?_
        refine tkS 2 33 (v := .pointer (some ⟨bf, 3, none⟩)) hS0 rfl rfl (by kernel_rfl) (by kernel_rfl) (by kernel_rfl) (by kernel_rfl) (wanted_none rfl) (fun _ _ _ h => h) (fun U hU => r_fld24 (o := 3) (by decide) (by simp [eval_put_ne, eval_put_eq, size_put, hts, e10])) ?_
        refine tkS 3 34 (v := .int .i64 f.ct) hS0 rfl rfl (by kernel_rfl) (by kernel_rfl) (by kernel_rfl) (by kernel_rfl) (wanted_none rfl) (fun _ _ _ h => h) (fun U hU => r_ld3 (b := bf) (o := 3) (by simp [eval_put_ne, eval_put_eq, size_put, hts]) ((hU.blk HBw.out hf8).cell 3)) ?_
        refine tkS 4 35 (v := .pointer (some ⟨b8, 1, none⟩)) hS0 rfl rfl (by kernel_rfl) (by kernel_rfl) (by kernel_rfl) (by kernel_rfl) (wanted_none rfl) (fun _ _ _ h => h) (fun U hU => r_fld24 (o := 1) (by decide) (by simp [eval_put_ne, eval_put_eq, size_put, hts, e8])) ?_
        refine oneKS 5 (by kernel_rfl) rfl rfl (wanted_none rfl) (run_store_one (v := .int .i64 f.ep) (off := 1) Hi3.out Hs3.out (by simp [eval_put_ne, eval_put_eq, size_put, hts]) (by simp [eval_put_ne, eval_put_eq, size_put, hts]) rfl rfl HMw.out.m8 (by simp [frV])) (Kept.setRow (S := fun k => k = b8) _ _ _ rfl) ?_
        have hs1 := HMw.out.m8.setRow ((frV sn (.slice none 0 0)).set 1 (.int .i64 f.ep))
        have hk1 : Kept (fun k => k = b8) w0 (w0.setRow b8 ((frV sn (.slice none 0 0)).set 1 (.int .i64 f.ep)).toArray) := Kept.setRow (S := fun k => k = b8) _ _ _ rfl
        generalize w0.setRow b8 ((frV sn (.slice none 0 0)).set 1 (.int .i64 f.ep)).toArray = w1 at hs1 hk1 ⊢
        refine tkS 6 36 (v := .pointer (some ⟨b8, 3, none⟩)) hk1 rfl rfl (by kernel_rfl) (by kernel_rfl) (by kernel_rfl) (by kernel_rfl) (wanted_none rfl) (fun _ _ _ h => h) (fun U hU => r_fld24 (o := 3) (by decide) (by simp [eval_put_ne, eval_put_eq, size_put, hts, e8])) ?_
        refine oneKS 7 (by kernel_rfl) rfl rfl (wanted_none rfl) (run_store_one (v := .int .i64 f.ct) (off := 3) Hi3.out Hs3.out (by simp [eval_put_ne, eval_put_eq, size_put, hts]) (by simp [eval_put_ne, eval_put_eq, size_put, hts]) rfl rfl hs1 (by simp [frV])) (hk1.trans (Kept.setRow (S := fun k => k = b8) _ _ _ rfl) (fun _ _ h => h)) ?_
        have hs2 := hs1.setRow (((frV sn (.slice none 0 0)).set 1 (.int .i64 f.ep)).set 3 (.int .i64 f.ct))
        have hk2 : Kept (fun k => k = b8) w0 (w1.setRow b8 (((frV sn (.slice none 0 0)).set 1 (.int .i64 f.ep)).set 3 (.int .i64 f.ct)).toArray) := hk1.trans (Kept.setRow (S := fun k => k = b8) _ _ _ rfl) (fun _ _ h => h)
        generalize w1.setRow b8 (((frV sn (.slice none 0 0)).set 1 (.int .i64 f.ep)).set 3 (.int .i64 f.ct)).toArray = A4 at hs2 hk2 ⊢
        refine doneS (by kernel_rfl) ?_
        have hs3 : Blk A4 b8 (frV (nxN sn f) (.slice none 0 0)) 98 := by rw [Hnx.out]; exact hs2
        have HM4 := hide (HMw.out.set8 hs3 hk2)
        have HBf := hide (hk2.blk HBw.out hf8)
        have HO4 := hide (HOw.out.kept hk2 (fun k h1 h2 => HOw.out.blk_ne HMw.out.m8 (by decide) (h2 ▸ h1)))
        have HSv4 := hide (HSw.out.keptBut hk2 (fun q hq => nobyte24 HMw.out.m8 q hq))
        have HK4 := hide (HKw.out.trans hk2 (fun i hi h => .inr (.inr (.inr (.inr (.inl h))))))
        clear hs1 hk1 hs2 hk2 hs3 HMw HBw HOw HSw HKw
        rw [hfr.out]
        clear hfr e8 e10 hts hS0
        try simp only [put_lit, put_none, List.set_cons_succ, List.set_cons_zero]
        have HCm := hide (comes_at A4 f (nxN sn f) (.slice bo ln cb) (.slice none 0 0) ⟨bo, cb, by rw [Hln.out]⟩ (by have := (rightN_iff f).1 Hrf.out; omega))
        have HLb := hide HM4.out.m8
        gi_wp2_with (first
          | (with_reducible refine ai_load (dst := some 37) (M := frV f (.slice bo ln cb)) Try.agg98 rfl HBf.out (by simp [frV]) rfl ?_)
          | (with_reducible refine ai_load (dst := some 38) (M := frV (nxN sn f) (.slice none 0 0)) Try.agg98 rfl HLb.out (by simp [frV]) rfl ?_)
          | (with_reducible refine stopi_val ?_))
        refine hide ?_
        try simp only [put_lit, put_none, List.set_cons_succ, List.set_cons_zero]
        refine ai_yc_in (yv := .func (.func 73) #[] #[]) (vy := frAgg f (.slice bo ln cb)) (vz := frAgg (nxN sn f) (.slice none 0 0)) rfl rfl rfl (.inl ⟨73, #[], rfl, enters_of Try.func73 (by kernel_rfl) rfl, HCm.out⟩) ?_
        rintro e A5 ⟨rfl, hk5⟩
        refine ⟨_, rfl, ?_⟩
        have HM5 := hide (HM4.out.kept hk5 (fun _ _ h => h))
        have HBf5 := hide (hk5.blk HBf.out (fun h => h))
        have HO5 := hide (HO4.out.kept hk5 (fun _ _ h => h))
        have HSv5 := hide (HSv4.out.kept hk5)
        have HK5 := hide (HK4.out.trans hk5 (fun _ _ h => h.elim))
        clear hk5 HM4 HBf HO4 HSv4 HK4 HCm HLb
        cases hcm : comesN f (nxN sn f) with
        | false =>
          have Hcm := hide hcm
          clear hcm
          try simp only [put_lit, put_none, List.set_cons_succ, List.set_cons_zero]
          gi_wp2_with (with_reducible refine stopi_store 22 ?_)
          refine hide ?_
          try simp only [put_lit, put_none, List.set_cons_succ, List.set_cons_zero]
          refine ai_store1 (v := .slice none 0 0) Hi22.out Hs22.out rfl rfl rfl rfl HM5.out.m4 (by simp [frV]) ?_
          intro Ae1 hbe1 hke1 hze1
          have HMe1 := hide (HM5.out.set4 hbe1 hke1)
          have HKe1 := hide (HK5.out.trans hke1 (fun i hi h => .inl h))
          clear hbe1 hke1 hze1 HM5 HK5
          try simp only [put_lit, put_none, List.set_cons_succ, List.set_cons_zero]
          gi_wp2_with (with_reducible refine stopi_store 3 ?_)
          refine hide ?_
          try simp only [put_lit, put_none, List.set_cons_succ, List.set_cons_zero]
          refine ai_store1 (v := .int .i64 0) Hi3.out Hs3.out rfl rfl rfl rfl HMe1.out.m5 (by simp [frV]) ?_
          intro Ae2 hbe2 hke2 hze2
          have HMe2 := hide (HMe1.out.set5 hbe2 hke2)
          have HKe2 := hide (HKe1.out.trans hke2 (fun i hi h => .inr (.inl h)))
          clear hbe2 hke2 hze2 HMe1 HKe1
          try simp only [put_lit, put_none, List.set_cons_succ, List.set_cons_zero]
          gi_wp2_with (with_reducible refine stopi_store 26 ?_)
          refine hide ?_
          try simp only [put_lit, put_none, List.set_cons_succ, List.set_cons_zero]
          refine ai_store1 (v := .int .i64 20) Hi28.out Hs28.out rfl rfl rfl rfl HMe2.out.m6 (by simp [frV]) ?_
          intro Ae3 hbe3 hke3 hze3
          have HMe3 := hide (HMe2.out.set6 hbe3 hke3)
          have HKe3 := hide (HKe2.out.trans hke3 (fun i hi h => .inr (.inr (.inl h))))
          clear hbe3 hke3 hze3 HMe2 HKe2
          try simp only [put_lit, put_none, List.set_cons_succ, List.set_cons_zero]
          gi_wp2
          refine ⟨gF r4 r5 r6 b7 b8 (.slice none 0 0), ⟨([], 0, 20), .slice none 0 0, _, _, by rw [Hstep.out, if_neg (by simp), if_pos Hcm.out], rfl, HMe3.out.m4, HMe3.out.m5, HMe3.out.m6, HMe3.out.m7, HMe3.out.m8, Own.nil _ _⟩, HKe3.out.mono (fun _ _ h => .inl h), fun k h => .inl (gF_nil h)⟩
        | true =>
          have Hcm := hide hcm
          clear hcm
          try simp only [put_lit, put_none, List.set_cons_succ, List.set_cons_zero]
          have c70 : A5.cell? ⟨b7, 0, none⟩ = some vo := HM5.out.m7.cell 0
          have cf4 : A5.cell? ⟨bf, 4, none⟩ = some (.slice bo ln cb) := HBf5.out.cell 4
          obtain ⟨vo2, A6, hrun, hO6, hk6, hm6⟩ := append_src (ty := 22) HO5.out HSv5.out (by have := Hgk.out; have := ((rightN_iff f).1 Hrf.out).2.2.2.2.1; omega) (Nat.zero_le _)
          have Hrun := hide hrun
          obtain ⟨oa, oc, hvo2⟩ := hO6.slice
          have HOv : Hid (vo2.cells = #[vo2] ∧ vo2.oneCell' = true) := hide (by rw [hvo2]; exact ⟨rfl, rfl⟩)
          have HM6 := hide (HM5.out.kept hk6 (fun k hk h => by
            rcases hk with rfl | rfl | rfl | rfl | rfl
            · exact HO5.out.blk_ne HM5.out.m4 (by decide) h
            · exact HO5.out.blk_ne HM5.out.m5 (by decide) h
            · exact HO5.out.blk_ne HM5.out.m6 (by decide) h
            · exact HO5.out.blk_ne HM5.out.m7 (by decide) h
            · exact HO5.out.blk_ne HM5.out.m8 (by decide) h))
          have HK6 := hide (HK5.out.trans hk6 (fun i hi h => .inr (.inr (.inr (.inr (.inr h))))))
          have HO6 := hide hO6
          have Hm6 : Hid (∀ k, vo2.ownBlock = some k → vo.ownBlock = some k ∨ A.heap.size ≤ k) := hide (fun k h => by
            rcases hm6 with h1 | h1
            · exact .inl (h1 ▸ h)
            · rw [h1] at h
              have := HK5.out.size
              simp at h
              exact .inr (by omega))
          clear hrun hO6 hk6 hm6 hvo2 HM5 HO5 HSv5 HK5
          gi_wp2_with (with_reducible refine stopi_app 22 22 ?_)
          refine hide ?_
          try simp only [put_lit, put_none, List.set_cons_succ, List.set_cons_zero]
          refine wpListIn_run rfl rfl (fun _ => by simp) (r_append25 rfl rfl Hrun.out) ?_
          try simp only [put_lit, put_none, List.set_cons_succ, List.set_cons_zero]
          clear c70 cf4
          gi_wp2_with (with_reducible refine stopi_store 22 ?_)
          refine hide ?_
          try simp only [put_lit, put_none, List.set_cons_succ, List.set_cons_zero]
          refine ai_store1 (v := vo2) Hi22.out Hs22.out rfl rfl HOv.out.1 HOv.out.2 HM6.out.m7 (by simp) ?_
          intro A7 hb7' hk7 hz7
          have HM7 := hide (HM6.out.set7 hb7' hk7)
          have HK7 := hide (HK6.out.trans hk7 (fun i hi h => .inr (.inr (.inr (.inl h)))))
          have HO7 := hide (HO6.out.kept hk7 (fun k h1 h2 => HO6.out.blk_ne HM6.out.m7 (by decide) (h2 ▸ h1)))
          clear hb7' hk7 hz7 HM6 HK6 HO6 Hrun
          try simp only [put_lit, put_none, List.set_cons_succ, List.set_cons_zero]
          have hnl : (nxN sn f).lsn = sn.lsn ∧ (nxN sn f).ix = sn.ix := by unfold nxN; split <;> simp
          have Hnl := hide hnl
          have hgb : 0 ≤ sn.lsn ∧ sn.lsn ≤ 4611686018427387904 ∧ 0 ≤ sn.ix ∧ sn.ix ≤ 65535 := by have := Hgk.out; omega
          have Hcq := hide (comesN_eq Hcm.out)
          have Hrr := hide ((rightN_iff f).1 Hrf.out)
          obtain ⟨nl, hnle⟩ : ∃ a, a = (nxN sn f).lsn := ⟨_, rfl⟩
          obtain ⟨ne, hnee⟩ : ∃ a, a = (nxN sn f).ep := ⟨_, rfl⟩
          obtain ⟨ni, hnie⟩ : ∃ a, a = (nxN sn f).ix := ⟨_, rfl⟩
          obtain ⟨nc, hnce⟩ : ∃ a, a = (nxN sn f).ct := ⟨_, rfl⟩
          have hnV : frV (nxN sn f) (.slice none 0 0) = [.int .i64 nl, .int .i64 ne, .int .i64 ni, .int .i64 nc, .slice none 0 0] := by rw [hnle, hnee, hnie, hnce]; rfl
          rw [hnV] at HM7
          have b1 : 0 ≤ nl := by rw [hnle]; omega
          have b2 : nl ≤ 4611686018427387904 := by rw [hnle]; omega
          have b3 : 0 ≤ ni := by rw [hnie]; omega
          have b4 : ni ≤ 65535 := by rw [hnie]; omega
          have HE := hide (show nl = sn.lsn ∧ ne = (nxN sn f).ep ∧ ni = sn.ix ∧ nc = (nxN sn f).ct from ⟨by rw [hnle]; exact hnl.1, hnee, by rw [hnie]; exact hnl.2, hnce⟩)
          clear hnl hgb hnle hnee hnie hnce hnV
          have c80 : A7.cell? ⟨b8, 0, none⟩ = some (.int .i64 nl) := HM7.out.m8.cell 0
          gi_wp2_with (with_reducible refine stopi_store 3 ?_)
          refine hide ?_
          try simp only [put_lit, put_none, List.set_cons_succ, List.set_cons_zero]
          refine ai_store1 (v := .int .i64 (nl + 1)) (off := 0) Hi3.out Hs3.out rfl rfl rfl rfl HM7.out.m8 (by simp) ?_
          intro A8 hb8' hk8' hz8'
          have HMa := hide (HM7.out.set8 hb8' hk8')
          have HKa := hide (HK7.out.trans hk8' (fun i hi h => .inr (.inr (.inr (.inr (.inl h))))))
          have HOa := hide (HO7.out.kept hk8' (fun k h1 h2 => HO7.out.blk_ne HM7.out.m8 (by decide) (h2 ▸ h1)))
          clear hb8' hk8' hz8' HM7 HK7 HO7 c80
          try simp only [put_lit, put_none, List.set_cons_succ, List.set_cons_zero]
          have c82 : A8.cell? ⟨b8, 2, none⟩ = some (.int .i64 ni) := HMa.out.m8.cell 2
          gi_wp2_with (with_reducible refine stopi_store 3 ?_)
          refine hide ?_
          try simp only [put_lit, put_none, List.set_cons_succ, List.set_cons_zero]
          refine ai_store1 (v := .int .i64 (ni + 1)) (off := 2) Hi3.out Hs3.out rfl rfl rfl rfl HMa.out.m8 (by simp) ?_
          intro A9 hb9' hk9' hz9'
          have HM8 := hide (HMa.out.set8 hb9' hk9')
          have HK8 := hide (HKa.out.trans hk9' (fun i hi h => .inr (.inr (.inr (.inr (.inl h))))))
          have HO8 := hide (HOa.out.kept hk9' (fun k h1 h2 => HOa.out.blk_ne HMa.out.m8 (by decide) (h2 ▸ h1)))
          clear hb9' hk9' hz9' HMa HKa HOa c82
          try simp only [put_lit, put_none, List.set_cons_succ, List.set_cons_zero]
          have c82 : A9.cell? ⟨b8, 2, none⟩ = some (.int .i64 (ni + 1)) := HM8.out.m8.cell 2
          have c83 : A9.cell? ⟨b8, 3, none⟩ = some (.int .i64 nc) := HM8.out.m8.cell 3
          by_cases hlast : ni + 1 = nc
          · have hlb : (ni + 1 == nc) = true := by simpa using hlast
            have Hlast := hide hlast
            clear hlast
            gi_wp2
            clear c82 c83 hlb
            have HN7 : Hid (¬ (b7 = r4 ∨ b7 = r5 ∨ b7 = r6)) := hide (by omega)
            have HN8 : Hid (¬ (b8 = r4 ∨ b8 = r5 ∨ b8 = r6)) := hide (by omega)
            refine hold_frame (p := fun fr => Code.wpIn (Fence.wide.inRound lp) n Try.prog _ _ fr _) ?_
            intro fr hfr
            have e4 : fr.eval (.tmp 4) = .pointer (some ⟨r4, 0, none⟩) := by rw [hfr.out]; rfl
            have e5 : fr.eval (.tmp 5) = .pointer (some ⟨r5, 0, none⟩) := by rw [hfr.out]; rfl
            have e6 : fr.eval (.tmp 6) = .pointer (some ⟨r6, 0, none⟩) := by rw [hfr.out]; rfl
            have e7 : fr.eval (.tmp 7) = .pointer (some ⟨b7, 0, none⟩) := by rw [hfr.out]; rfl
            have e8 : fr.eval (.tmp 8) = .pointer (some ⟨b8, 0, none⟩) := by rw [hfr.out]; rfl
            have hts : fr.tmps.size = 61 := by rw [hfr.out]; rfl
            refine region_Sin 99 Try.mixed (fun ⟨_, _, h⟩ => h) (by kernel_rfl) ?_
            intro w0 hkw hheap
            have HMw := hide (HM8.out.kept hkw (fun _ _ h => h))
            have HOw := hide (HO8.out.kept hkw (fun _ _ h => h))
            have HKw := hide (HK8.out.trans hkw (fun _ _ h => h.elim))
            clear HM8 HO8 HK8
            have hS0 := Kept.refl (fun k => k = r4 ∨ k = r5 ∨ k = r6) w0
            refine ⟨Kept (fun k => k = r4 ∨ k = r5 ∨ k = r6) w0, ?_⟩
            refine tkS 0 58 (v := vo2) hS0 rfl rfl (by kernel_rfl) (by kernel_rfl) (by kernel_rfl) (by kernel_rfl) (wanted_none rfl) (fun _ _ _ h => h) (fun U hU => r_ld22 (b := b7) (o := 0) (by simp [eval_put_ne, eval_put_eq, size_put, hts, e7]) ((hU.blk HMw.out.m7 HN7.out).cell 0)) ?_
            refine tkS 1 59 (v := .pointer (some ⟨b8, 3, none⟩)) hS0 rfl rfl (by kernel_rfl) (by kernel_rfl) (by kernel_rfl) (by kernel_rfl) (wanted_none rfl) (fun _ _ _ h => h) (fun U hU => r_fld24 (o := 3) (by decide) (by simp [eval_put_ne, eval_put_eq, size_put, hts, e8])) ?_
            refine tkS 2 60 (v := .int .i64 nc) hS0 rfl rfl (by kernel_rfl) (by kernel_rfl) (by kernel_rfl) (by kernel_rfl) (wanted_none rfl) (fun _ _ _ h => h) (fun U hU => r_ld3 (b := b8) (o := 3) (by simp [eval_put_ne, eval_put_eq, size_put, hts]) ((hU.blk HMw.out.m8 HN8.out).cell 3)) ?_
            refine oneKS 3 (by kernel_rfl) rfl rfl (wanted_none rfl) (run_store_one (v := vo2) (off := 0) Hi22.out Hs22.out (by simp [eval_put_ne, eval_put_eq, size_put, hts, e4]) (by simp [eval_put_ne, eval_put_eq, size_put, hts]) HOv.out.1 HOv.out.2 HMw.out.m4 (by simp)) (hS0.trans (Kept.setRow (S := fun k => k = r4 ∨ k = r5 ∨ k = r6) _ _ _ (.inl rfl)) (fun _ _ h => h)) ?_
            have qu1 := HMw.out.m4.setRow (List.set [.slice none 0 0] 0 (vo2))
            have ju1 : Kept (fun k => k = r4) w0 (w0.setRow r4 (List.set [.slice none 0 0] 0 (vo2)).toArray) := Kept.setRow (S := fun k => k = r4) _ _ _ rfl
            have ku1 : Kept (fun k => k = r4 ∨ k = r5 ∨ k = r6) w0 (w0.setRow r4 (List.set [.slice none 0 0] 0 (vo2)).toArray) := hS0.trans ju1 (fun i hi h => .inl h)
            generalize w0.setRow r4 (List.set [.slice none 0 0] 0 (vo2)).toArray = u1 at qu1 ju1 ku1 ⊢
            have HMu1 := hide (HMw.out.set4 qu1 ju1)
            refine oneKS 4 (by kernel_rfl) rfl rfl (wanted_none rfl) (run_store_one (v := .int .i64 nc) (off := 0) Hi3.out Hs3.out (by simp [eval_put_ne, eval_put_eq, size_put, hts, e5]) (by simp [eval_put_ne, eval_put_eq, size_put, hts]) rfl rfl HMu1.out.m5 (by simp)) (ku1.trans (Kept.setRow (S := fun k => k = r4 ∨ k = r5 ∨ k = r6) _ _ _ (.inr (.inl rfl))) (fun _ _ h => h)) ?_
            have qu2 := HMu1.out.m5.setRow (List.set [.int .i64 0] 0 (.int .i64 nc))
            have ju2 : Kept (fun k => k = r5) u1 (u1.setRow r5 (List.set [.int .i64 0] 0 (.int .i64 nc)).toArray) := Kept.setRow (S := fun k => k = r5) _ _ _ rfl
            have ku2 : Kept (fun k => k = r4 ∨ k = r5 ∨ k = r6) w0 (u1.setRow r5 (List.set [.int .i64 0] 0 (.int .i64 nc)).toArray) := ku1.trans ju2 (fun i hi h => .inr (.inl h))
            generalize u1.setRow r5 (List.set [.int .i64 0] 0 (.int .i64 nc)).toArray = u2 at qu2 ju2 ku2 ⊢
            have HMu2 := hide (HMu1.out.set5 qu2 ju2)
            refine oneKS 5 (by kernel_rfl) rfl rfl (wanted_none rfl) (run_store_one (v := .int .i64 0) (off := 0) Hi28.out Hs28.out (by simp [eval_put_ne, eval_put_eq, size_put, hts, e6]) rfl rfl rfl HMu2.out.m6 (by simp)) (ku2.trans (Kept.setRow (S := fun k => k = r4 ∨ k = r5 ∨ k = r6) _ _ _ (.inr (.inr rfl))) (fun _ _ h => h)) ?_
            have qu3 := HMu2.out.m6.setRow (List.set [.int .i64 0] 0 (.int .i64 0))
            have ju3 : Kept (fun k => k = r6) u2 (u2.setRow r6 (List.set [.int .i64 0] 0 (.int .i64 0)).toArray) := Kept.setRow (S := fun k => k = r6) _ _ _ rfl
            have ku3 : Kept (fun k => k = r4 ∨ k = r5 ∨ k = r6) w0 (u2.setRow r6 (List.set [.int .i64 0] 0 (.int .i64 0)).toArray) := ku2.trans ju3 (fun i hi h => .inr (.inr h))
            generalize u2.setRow r6 (List.set [.int .i64 0] 0 (.int .i64 0)).toArray = u3 at qu3 ju3 ku3 ⊢
            have HMu3 := hide (HMu2.out.set6 qu3 ju3)
            refine doneS (by kernel_rfl) ?_
            have HOu := hide (HOw.out.kept ku3 (fun k h1 h2 => by
              rcases h2 with h2 | h2 | h2
              · exact HOw.out.blk_ne HMw.out.m4 (by decide) (h2 ▸ h1)
              · exact HOw.out.blk_ne HMw.out.m5 (by decide) (h2 ▸ h1)
              · exact HOw.out.blk_ne HMw.out.m6 (by decide) (h2 ▸ h1)))
            have HKu := hide (HKw.out.trans ku3 (fun i hi h => by
              rcases h with h | h | h
              · exact .inl h
              · exact .inr (.inl h)
              · exact .inr (.inr (.inl h))))
            clear qu1 ju1 ku1 qu2 ju2 ku2 qu3 ju3 ku3 HMw HMu1 HMu2 HOw HKw
            rw [hfr.out]
            clear hfr e4 e5 e6 e7 e8 hts hS0
            try simp only [put_lit, put_none, List.set_cons_succ, List.set_cons_zero]
            gi_wp2
            refine ⟨gF r4 r5 r6 b7 b8 vo2, ⟨(s.body ++ f.B, nc, 0), vo2, _, _, ?_, rfl, HMu3.out.m4, HMu3.out.m5, HMu3.out.m6, HMu3.out.m7, HMu3.out.m8, HOu.out⟩, HKu.out.mono (fun _ _ h => .inl h), fun k h => gF_own Hm6.out h⟩
            rw [Hstep.out, if_neg (by simp), if_neg (by rw [Hcm.out]; simp)]
            have := HE.out
            have := Hlast.out
            rw [if_pos (by omega), this_ct HE.out.2.2.2]
          · have hlb : (ni + 1 == nc) = false := by simpa using hlast
            have Hlast := hide hlast
            clear hlast
            gi_wp2
            clear c82 c83 hlb
            have hrs : gRun (gStart lsn) (pre ++ [x]) = .inl ⟨s.body ++ f.B, ⟨nl + 1, ne, ni + 1, nc, []⟩⟩ := by
              have h1 := HE.out
              have h2 := Hlast.out
              rw [Hstep.out, if_neg (by simp), if_neg (by rw [Hcm.out]; simp), if_neg (by omega), h1.1, h1.2.1, h1.2.2.1, h1.2.2.2]
            refine ⟨gF r4 r5 r6 b7 b8 vo2, ⟨⟨s.body ++ f.B, ⟨nl + 1, ne, ni + 1, nc, []⟩⟩, vo2, hrs, Hok.out _ hrs, rfl, HM8.out.m4, HM8.out.m5, HM8.out.m6, HM8.out.m7, HM8.out.m8, HO8.out⟩, HK8.out.mono (fun _ _ h => .inl h), fun k h => gF_own Hm6.out h⟩
      · have hixb : (sn.ix == 0) = false := by simpa using hix
        have Hnx : Hid (nxN sn f = sn) := hide (by unfold nxN; rw [if_neg hix])
        clear hix
        have HM4 : Hid (GM r4 r5 r6 b7 b8 (.slice none 0 0) (.int .i64 0) (.int .i64 0) vo (frV (nxN sn f) (.slice none 0 0)) A3) := hide (by rw [Hnx.out]; exact HM3.out)
        clear HM3
        have HCm := hide (comes_at A3 f (nxN sn f) (.slice bo ln cb) (.slice none 0 0) ⟨bo, cb, by rw [Hln.out]⟩ (by have := (rightN_iff f).1 Hrf.out; omega))
        have HLb := hide HM4.out.m8
        gi_wp2_with (first
          | (with_reducible refine ai_load (dst := some 37) (M := frV f (.slice bo ln cb)) Try.agg98 rfl HBf.out (by simp [frV]) rfl ?_)
          | (with_reducible refine ai_load (dst := some 38) (M := frV (nxN sn f) (.slice none 0 0)) Try.agg98 rfl HLb.out (by simp [frV]) rfl ?_)
          | (with_reducible refine stopi_val ?_))
        refine hide ?_
        try simp only [put_lit, put_none, List.set_cons_succ, List.set_cons_zero]
        refine ai_yc_in (yv := .func (.func 73) #[] #[]) (vy := frAgg f (.slice bo ln cb)) (vz := frAgg (nxN sn f) (.slice none 0 0)) rfl rfl rfl (.inl ⟨73, #[], rfl, enters_of Try.func73 (by kernel_rfl) rfl, HCm.out⟩) ?_
        rintro e A5 ⟨rfl, hk5⟩
        refine ⟨_, rfl, ?_⟩
        have HM5 := hide (HM4.out.kept hk5 (fun _ _ h => h))
        have HBf5 := hide (hk5.blk HBf.out (fun h => h))
        have HO5 := hide (HO3.out.kept hk5 (fun _ _ h => h))
        have HSv5 := hide (HSv3.out.kept hk5)
        have HK5 := hide (HK3.out.trans hk5 (fun _ _ h => h.elim))
        clear hk5 HM4 HBf HO3 HSv3 HK3 HCm HLb
        cases hcm : comesN f (nxN sn f) with
        | false =>
          have Hcm := hide hcm
          clear hcm
          try simp only [put_lit, put_none, List.set_cons_succ, List.set_cons_zero]
          gi_wp2_with (with_reducible refine stopi_store 22 ?_)
          refine hide ?_
          try simp only [put_lit, put_none, List.set_cons_succ, List.set_cons_zero]
          refine ai_store1 (v := .slice none 0 0) Hi22.out Hs22.out rfl rfl rfl rfl HM5.out.m4 (by simp [frV]) ?_
          intro Ae1 hbe1 hke1 hze1
          have HMe1 := hide (HM5.out.set4 hbe1 hke1)
          have HKe1 := hide (HK5.out.trans hke1 (fun i hi h => .inl h))
          clear hbe1 hke1 hze1 HM5 HK5
          try simp only [put_lit, put_none, List.set_cons_succ, List.set_cons_zero]
          gi_wp2_with (with_reducible refine stopi_store 3 ?_)
          refine hide ?_
          try simp only [put_lit, put_none, List.set_cons_succ, List.set_cons_zero]
          refine ai_store1 (v := .int .i64 0) Hi3.out Hs3.out rfl rfl rfl rfl HMe1.out.m5 (by simp [frV]) ?_
          intro Ae2 hbe2 hke2 hze2
          have HMe2 := hide (HMe1.out.set5 hbe2 hke2)
          have HKe2 := hide (HKe1.out.trans hke2 (fun i hi h => .inr (.inl h)))
          clear hbe2 hke2 hze2 HMe1 HKe1
          try simp only [put_lit, put_none, List.set_cons_succ, List.set_cons_zero]
          gi_wp2_with (with_reducible refine stopi_store 26 ?_)
          refine hide ?_
          try simp only [put_lit, put_none, List.set_cons_succ, List.set_cons_zero]
          refine ai_store1 (v := .int .i64 20) Hi28.out Hs28.out rfl rfl rfl rfl HMe2.out.m6 (by simp [frV]) ?_
          intro Ae3 hbe3 hke3 hze3
          have HMe3 := hide (HMe2.out.set6 hbe3 hke3)
          have HKe3 := hide (HKe2.out.trans hke3 (fun i hi h => .inr (.inr (.inl h))))
          clear hbe3 hke3 hze3 HMe2 HKe2
          try simp only [put_lit, put_none, List.set_cons_succ, List.set_cons_zero]
          gi_wp2
          refine ⟨gF r4 r5 r6 b7 b8 (.slice none 0 0), ⟨([], 0, 20), .slice none 0 0, _, _, by rw [Hstep.out, if_neg (by simp), if_pos Hcm.out], rfl, HMe3.out.m4, HMe3.out.m5, HMe3.out.m6, HMe3.out.m7, HMe3.out.m8, Own.nil _ _⟩, HKe3.out.mono (fun _ _ h => .inl h), fun k h => .inl (gF_nil h)⟩
        | true =>
          have Hcm := hide hcm
          clear hcm
          try simp only [put_lit, put_none, List.set_cons_succ, List.set_cons_zero]
          have c70 : A5.cell? ⟨b7, 0, none⟩ = some vo := HM5.out.m7.cell 0
          have cf4 : A5.cell? ⟨bf, 4, none⟩ = some (.slice bo ln cb) := HBf5.out.cell 4
          obtain ⟨vo2, A6, hrun, hO6, hk6, hm6⟩ := append_src (ty := 22) HO5.out HSv5.out (by have := Hgk.out; have := ((rightN_iff f).1 Hrf.out).2.2.2.2.1; omega) (Nat.zero_le _)
          have Hrun := hide hrun
          obtain ⟨oa, oc, hvo2⟩ := hO6.slice
          have HOv : Hid (vo2.cells = #[vo2] ∧ vo2.oneCell' = true) := hide (by rw [hvo2]; exact ⟨rfl, rfl⟩)
          have HM6 := hide (HM5.out.kept hk6 (fun k hk h => by
            rcases hk with rfl | rfl | rfl | rfl | rfl
            · exact HO5.out.blk_ne HM5.out.m4 (by decide) h
            · exact HO5.out.blk_ne HM5.out.m5 (by decide) h
            · exact HO5.out.blk_ne HM5.out.m6 (by decide) h
            · exact HO5.out.blk_ne HM5.out.m7 (by decide) h
            · exact HO5.out.blk_ne HM5.out.m8 (by decide) h))
          have HK6 := hide (HK5.out.trans hk6 (fun i hi h => .inr (.inr (.inr (.inr (.inr h))))))
          have HO6 := hide hO6
          have Hm6 : Hid (∀ k, vo2.ownBlock = some k → vo.ownBlock = some k ∨ A.heap.size ≤ k) := hide (fun k h => by
            rcases hm6 with h1 | h1
            · exact .inl (h1 ▸ h)
            · rw [h1] at h
              have := HK5.out.size
              simp at h
              exact .inr (by omega))
          clear hrun hO6 hk6 hm6 hvo2 HM5 HO5 HSv5 HK5
          gi_wp2_with (with_reducible refine stopi_app 22 22 ?_)
          refine hide ?_
          try simp only [put_lit, put_none, List.set_cons_succ, List.set_cons_zero]
          refine wpListIn_run rfl rfl (fun _ => by simp) (r_append25 rfl rfl Hrun.out) ?_
          try simp only [put_lit, put_none, List.set_cons_succ, List.set_cons_zero]
          clear c70 cf4
          gi_wp2_with (with_reducible refine stopi_store 22 ?_)
          refine hide ?_
          try simp only [put_lit, put_none, List.set_cons_succ, List.set_cons_zero]
          refine ai_store1 (v := vo2) Hi22.out Hs22.out rfl rfl HOv.out.1 HOv.out.2 HM6.out.m7 (by simp) ?_
          intro A7 hb7' hk7 hz7
          have HM7 := hide (HM6.out.set7 hb7' hk7)
          have HK7 := hide (HK6.out.trans hk7 (fun i hi h => .inr (.inr (.inr (.inl h)))))
          have HO7 := hide (HO6.out.kept hk7 (fun k h1 h2 => HO6.out.blk_ne HM6.out.m7 (by decide) (h2 ▸ h1)))
          clear hb7' hk7 hz7 HM6 HK6 HO6 Hrun
          try simp only [put_lit, put_none, List.set_cons_succ, List.set_cons_zero]
          have hnl : (nxN sn f).lsn = sn.lsn ∧ (nxN sn f).ix = sn.ix := by unfold nxN; split <;> simp
          have Hnl := hide hnl
          have hgb : 0 ≤ sn.lsn ∧ sn.lsn ≤ 4611686018427387904 ∧ 0 ≤ sn.ix ∧ sn.ix ≤ 65535 := by have := Hgk.out; omega
          have Hcq := hide (comesN_eq Hcm.out)
          have Hrr := hide ((rightN_iff f).1 Hrf.out)
          obtain ⟨nl, hnle⟩ : ∃ a, a = (nxN sn f).lsn := ⟨_, rfl⟩
          obtain ⟨ne, hnee⟩ : ∃ a, a = (nxN sn f).ep := ⟨_, rfl⟩
          obtain ⟨ni, hnie⟩ : ∃ a, a = (nxN sn f).ix := ⟨_, rfl⟩
          obtain ⟨nc, hnce⟩ : ∃ a, a = (nxN sn f).ct := ⟨_, rfl⟩
          have hnV : frV (nxN sn f) (.slice none 0 0) = [.int .i64 nl, .int .i64 ne, .int .i64 ni, .int .i64 nc, .slice none 0 0] := by rw [hnle, hnee, hnie, hnce]; rfl
          rw [hnV] at HM7
          have b1 : 0 ≤ nl := by rw [hnle]; omega
          have b2 : nl ≤ 4611686018427387904 := by rw [hnle]; omega
          have b3 : 0 ≤ ni := by rw [hnie]; omega
          have b4 : ni ≤ 65535 := by rw [hnie]; omega
          have HE := hide (show nl = sn.lsn ∧ ne = (nxN sn f).ep ∧ ni = sn.ix ∧ nc = (nxN sn f).ct from ⟨by rw [hnle]; exact hnl.1, hnee, by rw [hnie]; exact hnl.2, hnce⟩)
          clear hnl hgb hnle hnee hnie hnce hnV
          have c80 : A7.cell? ⟨b8, 0, none⟩ = some (.int .i64 nl) := HM7.out.m8.cell 0
          gi_wp2_with (with_reducible refine stopi_store 3 ?_)
          refine hide ?_
          try simp only [put_lit, put_none, List.set_cons_succ, List.set_cons_zero]
          refine ai_store1 (v := .int .i64 (nl + 1)) (off := 0) Hi3.out Hs3.out rfl rfl rfl rfl HM7.out.m8 (by simp) ?_
          intro A8 hb8' hk8' hz8'
          have HMa := hide (HM7.out.set8 hb8' hk8')
          have HKa := hide (HK7.out.trans hk8' (fun i hi h => .inr (.inr (.inr (.inr (.inl h))))))
          have HOa := hide (HO7.out.kept hk8' (fun k h1 h2 => HO7.out.blk_ne HM7.out.m8 (by decide) (h2 ▸ h1)))
          clear hb8' hk8' hz8' HM7 HK7 HO7 c80
          try simp only [put_lit, put_none, List.set_cons_succ, List.set_cons_zero]
          have c82 : A8.cell? ⟨b8, 2, none⟩ = some (.int .i64 ni) := HMa.out.m8.cell 2
          gi_wp2_with (with_reducible refine stopi_store 3 ?_)
          refine hide ?_
          try simp only [put_lit, put_none, List.set_cons_succ, List.set_cons_zero]
          refine ai_store1 (v := .int .i64 (ni + 1)) (off := 2) Hi3.out Hs3.out rfl rfl rfl rfl HMa.out.m8 (by simp) ?_
          intro A9 hb9' hk9' hz9'
          have HM8 := hide (HMa.out.set8 hb9' hk9')
          have HK8 := hide (HKa.out.trans hk9' (fun i hi h => .inr (.inr (.inr (.inr (.inl h))))))
          have HO8 := hide (HOa.out.kept hk9' (fun k h1 h2 => HOa.out.blk_ne HMa.out.m8 (by decide) (h2 ▸ h1)))
          clear hb9' hk9' hz9' HMa HKa HOa c82
          try simp only [put_lit, put_none, List.set_cons_succ, List.set_cons_zero]
          have c82 : A9.cell? ⟨b8, 2, none⟩ = some (.int .i64 (ni + 1)) := HM8.out.m8.cell 2
          have c83 : A9.cell? ⟨b8, 3, none⟩ = some (.int .i64 nc) := HM8.out.m8.cell 3
          by_cases hlast : ni + 1 = nc
          · have hlb : (ni + 1 == nc) = true := by simpa using hlast
            have Hlast := hide hlast
            clear hlast
            gi_wp2
            clear c82 c83 hlb
            have HN7 : Hid (¬ (b7 = r4 ∨ b7 = r5 ∨ b7 = r6)) := hide (by omega)
            have HN8 : Hid (¬ (b8 = r4 ∨ b8 = r5 ∨ b8 = r6)) := hide (by omega)
            refine hold_frame (p := fun fr => Code.wpIn (Fence.wide.inRound lp) n Try.prog _ _ fr _) ?_
            intro fr hfr
            have e4 : fr.eval (.tmp 4) = .pointer (some ⟨r4, 0, none⟩) := by rw [hfr.out]; rfl
            have e5 : fr.eval (.tmp 5) = .pointer (some ⟨r5, 0, none⟩) := by rw [hfr.out]; rfl
            have e6 : fr.eval (.tmp 6) = .pointer (some ⟨r6, 0, none⟩) := by rw [hfr.out]; rfl
            have e7 : fr.eval (.tmp 7) = .pointer (some ⟨b7, 0, none⟩) := by rw [hfr.out]; rfl
            have e8 : fr.eval (.tmp 8) = .pointer (some ⟨b8, 0, none⟩) := by rw [hfr.out]; rfl
            have hts : fr.tmps.size = 61 := by rw [hfr.out]; rfl
            refine region_Sin 99 Try.mixed (fun ⟨_, _, h⟩ => h) (by kernel_rfl) ?_
            intro w0 hkw hheap
            have HMw := hide (HM8.out.kept hkw (fun _ _ h => h))
            have HOw := hide (HO8.out.kept hkw (fun _ _ h => h))
            have HKw := hide (HK8.out.trans hkw (fun _ _ h => h.elim))
            clear HM8 HO8 HK8
            have hS0 := Kept.refl (fun k => k = r4 ∨ k = r5 ∨ k = r6) w0
            refine ⟨Kept (fun k => k = r4 ∨ k = r5 ∨ k = r6) w0, ?_⟩
            refine tkS 0 58 (v := vo2) hS0 rfl rfl (by kernel_rfl) (by kernel_rfl) (by kernel_rfl) (by kernel_rfl) (wanted_none rfl) (fun _ _ _ h => h) (fun U hU => r_ld22 (b := b7) (o := 0) (by simp [eval_put_ne, eval_put_eq, size_put, hts, e7]) ((hU.blk HMw.out.m7 HN7.out).cell 0)) ?_
            refine tkS 1 59 (v := .pointer (some ⟨b8, 3, none⟩)) hS0 rfl rfl (by kernel_rfl) (by kernel_rfl) (by kernel_rfl) (by kernel_rfl) (wanted_none rfl) (fun _ _ _ h => h) (fun U hU => r_fld24 (o := 3) (by decide) (by simp [eval_put_ne, eval_put_eq, size_put, hts, e8])) ?_
            refine tkS 2 60 (v := .int .i64 nc) hS0 rfl rfl (by kernel_rfl) (by kernel_rfl) (by kernel_rfl) (by kernel_rfl) (wanted_none rfl) (fun _ _ _ h => h) (fun U hU => r_ld3 (b := b8) (o := 3) (by simp [eval_put_ne, eval_put_eq, size_put, hts]) ((hU.blk HMw.out.m8 HN8.out).cell 3)) ?_
            refine oneKS 3 (by kernel_rfl) rfl rfl (wanted_none rfl) (run_store_one (v := vo2) (off := 0) Hi22.out Hs22.out (by simp [eval_put_ne, eval_put_eq, size_put, hts, e4]) (by simp [eval_put_ne, eval_put_eq, size_put, hts]) HOv.out.1 HOv.out.2 HMw.out.m4 (by simp)) (hS0.trans (Kept.setRow (S := fun k => k = r4 ∨ k = r5 ∨ k = r6) _ _ _ (.inl rfl)) (fun _ _ h => h)) ?_
            have qu1 := HMw.out.m4.setRow (List.set [.slice none 0 0] 0 (vo2))
            have ju1 : Kept (fun k => k = r4) w0 (w0.setRow r4 (List.set [.slice none 0 0] 0 (vo2)).toArray) := Kept.setRow (S := fun k => k = r4) _ _ _ rfl
            have ku1 : Kept (fun k => k = r4 ∨ k = r5 ∨ k = r6) w0 (w0.setRow r4 (List.set [.slice none 0 0] 0 (vo2)).toArray) := hS0.trans ju1 (fun i hi h => .inl h)
            generalize w0.setRow r4 (List.set [.slice none 0 0] 0 (vo2)).toArray = u1 at qu1 ju1 ku1 ⊢
            have HMu1 := hide (HMw.out.set4 qu1 ju1)
            refine oneKS 4 (by kernel_rfl) rfl rfl (wanted_none rfl) (run_store_one (v := .int .i64 nc) (off := 0) Hi3.out Hs3.out (by simp [eval_put_ne, eval_put_eq, size_put, hts, e5]) (by simp [eval_put_ne, eval_put_eq, size_put, hts]) rfl rfl HMu1.out.m5 (by simp)) (ku1.trans (Kept.setRow (S := fun k => k = r4 ∨ k = r5 ∨ k = r6) _ _ _ (.inr (.inl rfl))) (fun _ _ h => h)) ?_
            have qu2 := HMu1.out.m5.setRow (List.set [.int .i64 0] 0 (.int .i64 nc))
            have ju2 : Kept (fun k => k = r5) u1 (u1.setRow r5 (List.set [.int .i64 0] 0 (.int .i64 nc)).toArray) := Kept.setRow (S := fun k => k = r5) _ _ _ rfl
            have ku2 : Kept (fun k => k = r4 ∨ k = r5 ∨ k = r6) w0 (u1.setRow r5 (List.set [.int .i64 0] 0 (.int .i64 nc)).toArray) := ku1.trans ju2 (fun i hi h => .inr (.inl h))
            generalize u1.setRow r5 (List.set [.int .i64 0] 0 (.int .i64 nc)).toArray = u2 at qu2 ju2 ku2 ⊢
            have HMu2 := hide (HMu1.out.set5 qu2 ju2)
            refine oneKS 5 (by kernel_rfl) rfl rfl (wanted_none rfl) (run_store_one (v := .int .i64 0) (off := 0) Hi28.out Hs28.out (by simp [eval_put_ne, eval_put_eq, size_put, hts, e6]) rfl rfl rfl HMu2.out.m6 (by simp)) (ku2.trans (Kept.setRow (S := fun k => k = r4 ∨ k = r5 ∨ k = r6) _ _ _ (.inr (.inr rfl))) (fun _ _ h => h)) ?_
            have qu3 := HMu2.out.m6.setRow (List.set [.int .i64 0] 0 (.int .i64 0))
            have ju3 : Kept (fun k => k = r6) u2 (u2.setRow r6 (List.set [.int .i64 0] 0 (.int .i64 0)).toArray) := Kept.setRow (S := fun k => k = r6) _ _ _ rfl
            have ku3 : Kept (fun k => k = r4 ∨ k = r5 ∨ k = r6) w0 (u2.setRow r6 (List.set [.int .i64 0] 0 (.int .i64 0)).toArray) := ku2.trans ju3 (fun i hi h => .inr (.inr h))
            generalize u2.setRow r6 (List.set [.int .i64 0] 0 (.int .i64 0)).toArray = u3 at qu3 ju3 ku3 ⊢
            have HMu3 := hide (HMu2.out.set6 qu3 ju3)
            refine doneS (by kernel_rfl) ?_
            have HOu := hide (HOw.out.kept ku3 (fun k h1 h2 => by
              rcases h2 with h2 | h2 | h2
              · exact HOw.out.blk_ne HMw.out.m4 (by decide) (h2 ▸ h1)
              · exact HOw.out.blk_ne HMw.out.m5 (by decide) (h2 ▸ h1)
              · exact HOw.out.blk_ne HMw.out.m6 (by decide) (h2 ▸ h1)))
            have HKu := hide (HKw.out.trans ku3 (fun i hi h => by
              rcases h with h | h | h
              · exact .inl h
              · exact .inr (.inl h)
              · exact .inr (.inr (.inl h))))
            clear qu1 ju1 ku1 qu2 ju2 ku2 qu3 ju3 ku3 HMw HMu1 HMu2 HOw HKw
            rw [hfr.out]
            clear hfr e4 e5 e6 e7 e8 hts hS0
            try simp only [put_lit, put_none, List.set_cons_succ, List.set_cons_zero]
            gi_wp2
            refine ⟨gF r4 r5 r6 b7 b8 vo2, ⟨(s.body ++ f.B, nc, 0), vo2, _, _, ?_, rfl, HMu3.out.m4, HMu3.out.m5, HMu3.out.m6, HMu3.out.m7, HMu3.out.m8, HOu.out⟩, HKu.out.mono (fun _ _ h => .inl h), fun k h => gF_own Hm6.out h⟩
            rw [Hstep.out, if_neg (by simp), if_neg (by rw [Hcm.out]; simp)]
            have := HE.out
            have := Hlast.out
            rw [if_pos (by omega), this_ct HE.out.2.2.2]
          · have hlb : (ni + 1 == nc) = false := by simpa using hlast
            have Hlast := hide hlast
            clear hlast
            gi_wp2
            clear c82 c83 hlb
            have hrs : gRun (gStart lsn) (pre ++ [x]) = .inl ⟨s.body ++ f.B, ⟨nl + 1, ne, ni + 1, nc, []⟩⟩ := by
              have h1 := HE.out
              have h2 := Hlast.out
              rw [Hstep.out, if_neg (by simp), if_neg (by rw [Hcm.out]; simp), if_neg (by omega), h1.1, h1.2.1, h1.2.2.1, h1.2.2.2]
            refine ⟨gF r4 r5 r6 b7 b8 vo2, ⟨⟨s.body ++ f.B, ⟨nl + 1, ne, ni + 1, nc, []⟩⟩, vo2, hrs, Hok.out _ hrs, rfl, HM8.out.m4, HM8.out.m5, HM8.out.m6, HM8.out.m7, HM8.out.m8, HO8.out⟩, HK8.out.mono (fun _ _ h => .inl h), fun k h => gF_own Hm6.out h⟩
  case done =>
    rintro D F A hD ⟨s, vo, hr, hg, rfl, h4, h5, h6, h7, h8, ho⟩ hF hnD hkA hP hDD
    have HM : Hid (GM r4 r5 r6 b7 b8 (.slice none 0 0) (.int .i64 0) (.int .i64 0) vo (frV s.nx (.slice none 0 0)) A) := hide ⟨h4, h5, h6, h7, h8, hne47⟩
    have HKA := hide (keptC HK8.out hkA (fun k h => by
      rcases h with h | h | h | h | h | h
      · omega
      · omega
      · omega
      · omega
      · omega
      · simp [Value.ownBlock] at h))
    have Hr := hide hr
    have HP := hide hP
    have HDD := hide hDD
    have hw8s := HK8.out.size
    have HD : Hid (D ≠ r4 ∧ D ≠ r5 ∧ D ≠ r6 ∧ w.heap.size ≤ D ∧ ∀ k, C k → k < w.heap.size) := hide ⟨fun e => hnD (.inl e), fun e => hnD (.inr (.inl e)), fun e => hnD (.inr (.inr (.inl e))), by omega, fun k h => HS.out.lt k (.inr h)⟩
    have hDA : D < A.heap.size := (Array.getElem?_eq_some_iff.1 hDD).1
    clear hr hg h4 h5 h6 h7 h8 ho hkA hP hDD hF hnD
    go_wp2_with (with_reducible refine stop_store 22 ?_)
    refine hide ?_
    refine aw_store1 (v := .slice none 0 0) Hi22.out Hs22.out rfl rfl rfl rfl HM.out.m4 (by simp) ?_
    intro A1 hb1 hk1 hz1
    have HM1 := hide (HM.out.set4 hb1 hk1)
    have HK1 := hide (HKA.out.trans hk1 (fun i hi h => by omega))
    have HP1 := hide (HT.out.post _ _ _ _ _ HP.out hk1 (fun k h1 h2 => by have := HD.out.2.2.2.2 k h2; omega))
    have HD1 := hide ((hk1.block D hDA HD.out.1).trans HDD.out)
    clear hb1 hk1 hz1 HM HKA HP HDD
    go_wp2_with (with_reducible refine stop_store 3 ?_)
    refine hide ?_
    refine aw_store1 (v := .int .i64 0) Hi3.out Hs3.out rfl rfl rfl rfl HM1.out.m5 (by simp) ?_
    intro A2 hb2 hk2 hz2
    have HM2 := hide (HM1.out.set5 hb2 hk2)
    have HK2 := hide (HK1.out.trans hk2 (fun i hi h => by omega))
    have HP2 := hide (HT.out.post _ _ _ _ _ HP1.out hk2 (fun k h1 h2 => by have := HD.out.2.2.2.2 k h2; omega))
    have HD2 := hide ((hk2.block D (Array.getElem?_eq_some_iff.1 HD1.out).1 HD.out.2.1).trans HD1.out)
    clear hb2 hk2 hz2 HM1 HK1 HP1 HD1
    go_wp2_with (with_reducible refine stop_store 26 ?_)
    refine hide ?_
    refine aw_store1 (v := .int .i64 20) Hi28.out Hs28.out rfl rfl rfl rfl HM2.out.m6 (by simp) ?_
    intro A3 hb3 hk3 hz3
    have HM3 := hide (HM2.out.set6 hb3 hk3)
    have HK3 := hide (HK2.out.trans hk3 (fun i hi h => by omega))
    have HP3 := hide (HT.out.post _ _ _ _ _ HP2.out hk3 (fun k h1 h2 => by have := HD.out.2.2.2.2 k h2; omega))
    have HD3 := hide ((hk3.block D (Array.getElem?_eq_some_iff.1 HD2.out).1 HD.out.2.2.1).trans HD2.out)
    clear hb3 hk3 hz3 HM2 HK2 HP2 HD2
    go_wp2
    have hkD : Kept (fun k => k = D) A3 (A3.putObj D (.deferred none)) := Kept.putObj _ _ _
    refine ⟨by simp, .inl ⟨_, _, rfl, run_takeDeferred HD3.out, ?_⟩⟩
    refine ⟨_, results_cell3 rfl rfl rfl rfl (hkD.blk HM3.out.m4 (fun e => HD.out.1 e.symm)) (hkD.blk HM3.out.m5 (fun e => HD.out.2.1 e.symm)) (hkD.blk HM3.out.m6 (fun e => HD.out.2.2.1 e.symm)), ?_⟩
    rw [Hr.out]
    exact ⟨_, _, true, rfl, Src.nil _, HK3.out.trans hkD (fun i hi h => by have := HD.out.2.2.2.1; omega), HT.out.post _ _ _ _ _ HP3.out hkD (fun k h1 h2 => by have := HD.out.2.2.2.2 k h2; have := HD.out.2.2.2.1; omega), ⟨[], (List.append_nil _).symm⟩, .inl rfl⟩
  case stop =>
    rintro D pre F A hD hpre ⟨r, vo, v7, L, hr, rfl, h4, h5, h6, h7, h8, ho⟩ hF hnD hkA hP hDD
    have HKA := hide (keptC HK8.out hkA (fun k h => by
      rcases h with h | h | h | h | h | h
      · omega
      · omega
      · omega
      · omega
      · omega
      · simp [Value.ownBlock] at h))
    have hw8s := HK8.out.size
    have hCl : ∀ k, C k → k < w.heap.size := fun k h => HS.out.lt k (.inr h)
    have hkD : Kept (fun k => k = D) A (A.putObj D (.deferred none)) := Kept.putObj _ _ _
    have HB4 := hide (hkD.blk h4 (fun e => hnD (.inl e.symm)))
    have HB5 := hide (hkD.blk h5 (fun e => hnD (.inr (.inl e.symm))))
    have HB6 := hide (hkD.blk h6 (fun e => hnD (.inr (.inr (.inl e.symm)))))
    have HOo := hide ((ho.kept hkD (fun k h1 h2 => hnD (.inr (.inr (.inr (.inr (.inr (h2 ▸ h1)))))))).src)
    have HPo := hide (HT.out.post _ _ _ _ _ hP hkD (fun k h1 h2 => by have := hCl k h2; omega))
    have HKo := hide (HKA.out.trans hkD (fun i hi h => by omega))
    have Hr := hide hr
    have HDD := hide hDD
    have Hpre := hide hpre
    clear h4 h5 h6 h7 h8 ho hkA hP hDD hF hnD hr hpre hkD
    go_wp2
    refine ⟨by simp, .inl ⟨_, _, rfl, run_takeDeferred HDD.out, ?_⟩⟩
    refine ⟨_, results_cell3 rfl rfl rfl rfl HB4.out HB5.out HB6.out, ?_⟩
    obtain ⟨post, hpost⟩ := Hpre.out
    have hall : gRun (gStart lsn) xs = .inr r := by rw [hpost]; exact gRun_more _ _ _ Hr.out
    rw [hall]
    exact ⟨_, pre, false, rfl, HOo.out, HKo.out, HPo.out, ⟨post, hpost⟩, .inr ⟨r, Hr.out⟩⟩
end Go.Proofs.Ytbbhchmdggfncaa
