/-
  What the statements ask ahead of everything else.
-/
import Derived.Test.YteijgdfgdhafnaaMkRef
namespace Go.Proofs.Yteijgdfgdhafnaa
open Go.RowKit Go.Shelf
set_option linter.unusedSimpArgs false
set_option linter.unusedVariables false
set_option maxRecDepth 100000

/-- A write of a block, without bytes, is built. -/
theorem Try.buildW {ρ : Operand → Value} {w : World} {dst : Option Tmp} {ty : TypeId} {x : Operand} {pos : String} {aft : Array Edge} {gd : Option (Nat × Bool)} {k : Int} (hx : ρ x = .int .i64 k) :
    (execOp ρ ⟨dst, .build 47 #[(0, x)], ty, pos, aft, gd⟩).run Try.prog w = .ok (.value (.agg #[.int .i64 k, .slice none 0 0])) w := by
  obtain ⟨i0, hi0, hz0, hs0, hb0⟩ := info_parts Try.info47
  have hp : ∃ fields, Try.prog.underlying 47 = some (.struct fields) ∧ fields.toList.mapM (fun f => (Try.prog.info? f.type).map fun i => (f.offset, i.size)) = some [(0, 1), (1, 1)] := ⟨_, Try.underlying47, by kernel_rfl⟩
  obtain ⟨fields, hu, hp⟩ := hp
  have hb : Try.prog.built 47 [(0, .int .i64 k)] = some #[.int .i64 k, .slice none 0 0] := by
    simp only [Program.built, hi0, hu, hz0, hp]
    rw [fill_one _ _ 0 (.int .i64 k) _ 0 [.int .i64 k] rfl (by simp) (by simp [Value.cells]), fill_nil]
    rfl
  have hr := run_build (P := Try.prog) w 47 #[(0, .int .i64 k)] _ (by simpa using hb)
  simp [execOp, hx, hr]
def wv0 (k : Int) : Wv := ⟨k, ⟨none, 0, 0⟩, []⟩
theorem bs_one {w : World} {g : Nat} {k : Int} (h : Blk w g [.int .i64 k, .slice none 0 0] 47) : BsAt w (.slice (some ⟨g, 0, none⟩) 1 1) [wv0 k] := by
  refine ⟨⟨_, 1, rfl, Nat.le_refl _, fun _ => ⟨g, 0, rfl, ?_⟩⟩, by simp⟩
  have := h.cells 0 2
  simpa [wv0, Wv.ent, encE, ekB, evB] using this
theorem bs_nil (w : World) : BsAt w (.slice none 0 0) [] := ⟨⟨none, 0, rfl, Nat.zero_le _, fun h => absurd h (by simp)⟩, by simp⟩
/-- A slice of one such write is built. -/
theorem run_bsW {ρ : Operand → Value} {w : World} {dst : Option Tmp} {ty : TypeId} {x : Operand} {pos : String} {aft : Array Edge} {gd : Option (Nat × Bool)} {k : Int} (hx : ρ x = .agg #[.int .i64 k, .slice none 0 0]) :
    (execOp ρ ⟨dst, .buildSlice 36 1 #[(0, x)], ty, pos, aft, gd⟩).run Try.prog w = .ok (.value (.slice (some ⟨w.heap.size, 0, none⟩) 1 1)) (w.alloc (.cells [Value.int .i64 k, .slice none 0 0].toArray 47)) := by
  obtain ⟨i0, hi0, hz0, hs0, hb0⟩ := info_parts Try.info47
  exact run_buildSlice_one (M := [.int .i64 k, .slice none 0 0]) Try.underlying36 hi0 hz0 hs0 (by simp) (by simp) (.inl hx)
theorem aw_bsW {ops : Array Oper} {Q : Exit → Act → World → Prop} {a : Act} {w : World} {rest : List Oper} {dst : Option Tmp} {ty : TypeId} {x : Operand} {pos : String} {aft : Array Edge} {k : Int} (hx : a.eval x = .agg #[.int .i64 k, .slice none 0 0])
    (h : ∀ w', Blk w' w.heap.size [.int .i64 k, .slice none 0 0] 47 → Kept (fun _ => False) w w' → wpList Try.prog ops Q rest (a.put dst (.slice (some ⟨w.heap.size, 0, none⟩) 1 1)) w') :
    wpList Try.prog ops Q (⟨dst, .buildSlice 36 1 #[(0, x)], ty, pos, aft, none⟩ :: rest) a w :=
  wpList_run rfl (run_bsW hx) (h _ (Blk.new w _ _) (Kept.alloc _ _ _))
section
variable {P : Program} {ops : Array Oper} {Q : Exit → Act → World → Prop} {a : Act} {w w' : World} {rest : List Oper} {o : Oper} {v : Value} {dst : Option Tmp} {ty : TypeId} {pos : String} {aft : Array Edge}
theorem wpList_runG (hg : Region.wanted o (yielded ops a.tmps) = true) (hr : (execOp a.eval o).run P w = .ok (.value v) w') (h : wpList P ops Q rest (a.put o.dst v) w') : wpList P ops Q (o :: rest) a w :=
  wpList_step fun K hK => by rw [if_pos hg]; unfold Oper.wp; rw [hr]; exact hK _ _ h
theorem stop_bsG (t : TypeId) {n : Nat} {es : Array (Nat × Operand)} {g : Nat × Bool} (h : Hid (wpList P ops Q (⟨dst, .buildSlice t n es, ty, pos, aft, some g⟩ :: rest) a w)) : wpList P ops Q (⟨dst, .buildSlice t n es, ty, pos, aft, some g⟩ :: rest) a w := h.out
theorem stop_bldG (t : TypeId) {es : Array (Nat × Operand)} {g : Nat × Bool} (h : Hid (wpList P ops Q (⟨dst, .build t es, ty, pos, aft, some g⟩ :: rest) a w)) : wpList P ops Q (⟨dst, .build t es, ty, pos, aft, some g⟩ :: rest) a w := h.out
end
theorem at_eq (w : World) (b g cap : Nat) (C : List Value) (l : List Int) (h : MkAt w b g cap C l) (k r : Int) (hr : mkAt l k = r) : Calls Try.prog 10 #[.pointer (some ⟨b, 0, none⟩), .int .i64 k] w fun e w' => e = .returned (.int .i64 r) ∧ w = w' := by subst hr; exact at_at w b g cap C l h k
theorem most_eq (w : World) (b g cap : Nat) (C : List Value) (l : List Int) (h : MkAt w b g cap C l) (r : Int) (hr : mkMost l = r) : Calls Try.prog 11 #[.pointer (some ⟨b, 0, none⟩)] w fun e w' => e = .returned (.int .i64 r) ∧ w = w' := by subst hr; exact most_at w b g cap C l h
theorem note_eq (w : World) (b g cap : Nat) (C : List Value) (l : List Int) (h : MkAt w b g cap C l) (n : Int) (v : Value) (ws : List Wv) (hws : BsAt w v ws) (hx : ∀ k, vX v k → 0 < ws.length → k ≠ g) (r : Int) (l' : List Int) (hr : mkErr l n (bks ws) = r) (hl : mkNote l n (bks ws) = l') :
    Calls Try.prog 8 #[.pointer (some ⟨b, 0, none⟩), .int .i64 n, v] w fun e w' => e = .returned (.int .i64 r) ∧ MkAt w' b g cap C l' ∧ Kept (fun k => k = g) w w' := by subst hr; subst hl; exact note_at w b g cap C l h n v ws hws hx
theorem vX_nil (k g : Nat) : vX (.slice none 0 0) k → k ≠ g := by rintro ⟨_, _, _, e⟩; cases e
theorem vX_new {w : World} {g k : Nat} (h : g < w.heap.size) (hv : vX (.slice (some ⟨w.heap.size, 0, none⟩) 1 1) k) : k ≠ g := by
  obtain ⟨_, _, _, e⟩ := hv
  cases e
  omega
set_option maxHeartbeats 4000000 in
theorem first_at (w : World) : Calls Try.prog 5 #[] w fun e w' => e = .returned (.bool true) ∧ Kept (fun _ => False) w w' := by
  have HN := hide (mnew_ok w 3 0 (by decide) (by decide))
  have E1 : Hid (mkErr (List.replicate 3 0) 1 (bks [wv0 2]) = 0 ∧ mkNote (List.replicate 3 0) 1 (bks [wv0 2]) = [0, 0, 1]) := hide (by decide)
  have E2 : Hid (mkSince [0, 0, 1] 0 = [2] ∧ mkAt [0, 0, 1] 2 = 1 ∧ mkAt [0, 0, 1] 3 = -1 ∧ mkMost [0, 0, 1] = 1) := hide (by decide)
  have E3 : Hid (mkErr [0, 0, 1] 0 (bks []) = 52 ∧ mkNote [0, 0, 1] 0 (bks []) = [0, 0, 1]) := hide (by decide)
  have E4 : Hid (mkErr [0, 0, 1] 2 (bks [wv0 3]) = 41 ∧ mkNote [0, 0, 1] 2 (bks [wv0 3]) = [0, 0, 1]) := hide (by decide)
  go_enter Try.func5, Try.ntmps5
  go_wp2_with fail
  refine HN.out.mono ?_
  rintro e w1 ⟨b, g, rfl, hk1, hb1, hg1, hm1⟩
  have HK1 := hide hk1
  have Hbg := hide (And.intro hb1 hg1)
  have HM1 := hide hm1
  clear hk1 hb1 hg1 hm1 HN
  go_wp2_with (first
    | (with_reducible refine wpList_run rfl (Try.buildW rfl) ?_)
    | ((with_reducible refine aw_bsW rfl ?_); intro w2 hw2 hk2; have HW2 := hide (bs_one hw2); have HK2 := hide hk2; have HM2 := hide (HM1.out.kept hk2); clear hw2 hk2)
    | (go_at_call 8; refine (note_eq w2 b g 3 [] _ HM2.out 1 _ [wv0 2] HW2.out (fun k hv _ => vX_new HM1.out.2.1.lt hv) 0 _ E1.out.1 E1.out.2).mono ?_; rintro e w3 ⟨rfl, hm3, hk3⟩; have HM3 := hide hm3; have HK3 := hide hk3; clear hm3 hk3))
  refine (since_at w3 b g 3 [] _ HM3.out 0).mono ?_
  rintro e w4 ⟨v, rfl, hg4⟩
  rw [E2.out.1] at hg4
  rcases ownsRow_blk hg4.1 with ⟨_, h0, _⟩ | ⟨g2, cap2, C2, rfl, hb2, _⟩
  · cases h0
  have c0 : w4.cell? ⟨g2, 0, none⟩ = some (.int .i64 2) := hb2.cell 0
  have HM4 := hide (HM3.out.kept hg4.2.2)
  have HK4 := hide hg4.2.2
  have HA2 := hide (at_eq w4 b g 3 [] _ HM4.out 2 1 E2.out.2.1)
  have HA3 := hide (at_eq w4 b g 3 [] _ HM4.out 3 (-1) E2.out.2.2.1)
  have HMo := hide (most_eq w4 b g 3 [] _ HM4.out 1 E2.out.2.2.2)
  have HNo := hide (note_eq w4 b g 3 [] _ HM4.out 0 (.slice none 0 0) [] (bs_nil w4) (fun k hv _ => vX_nil k g hv) 52 _ E3.out.1 E3.out.2)
  clear hg4 hb2
  go_wp2_with fail
  refine HA2.out.mono ?_
  rintro e w5 ⟨rfl, rfl⟩
  clear HA2 c0
  go_wp2_with fail
  refine HA3.out.mono ?_
  rintro e w5 ⟨rfl, rfl⟩
  clear HA3
  go_wp2_with fail
  refine HMo.out.mono ?_
  rintro e w5 ⟨rfl, rfl⟩
  clear HMo
  go_wp2_with fail
  refine HNo.out.mono ?_
  rintro e w5 ⟨rfl, hm5, hk5⟩
  have HM5 := hide hm5
  have HK5 := hide hk5
  clear hm5 hk5 HNo
  go_wp2_with (first | (with_reducible refine stop_bldG 47 ?_) | fail)
  refine hide ?_
  refine wpList_runG rfl (Try.buildW rfl) ?_
  try simp only [put_lit, put_none, List.set_cons_succ, List.set_cons_zero]
  go_wp2_with (with_reducible refine stop_bsG 36 ?_)
  refine hide ?_
  refine wpList_runG rfl (run_bsW rfl) ?_
  have hb6 := Blk.new w5 [Value.int .i64 3, .slice none 0 0] 47
  have hk6 : Kept (fun _ => False) w5 (w5.alloc (.cells [Value.int .i64 3, .slice none 0 0].toArray 47)) := Kept.alloc _ _ _
  generalize w5.alloc (.cells [Value.int .i64 3, .slice none 0 0].toArray 47) = w6 at hb6 hk6
  have HNp := hide (note_eq w6 b g 3 [] _ (HM5.out.kept hk6) 2 _ [wv0 3] (bs_one hb6) (fun k hv _ => vX_new HM5.out.2.1.lt hv) 41 _ E4.out.1 E4.out.2)
  have HK6 := hide hk6
  clear hb6 hk6
  try simp only [put_lit, put_none, List.set_cons_succ, List.set_cons_zero]
  go_wp2_with fail
  refine HNp.out.mono ?_
  rintro e w7 ⟨rfl, hm7, hk7⟩
  have HK7 := hide hk7
  clear hm7 hk7 HNp
  go_wp2
  go_ret
  refine ⟨rfl, ?_⟩
  have hg := Hbg.out.2
  have k2 : Kept (fun _ => False) w w2 := HK1.out.trans HK2.out (fun _ _ h => h)
  have k3 : Kept (fun _ => False) w w3 := k2.trans HK3.out (fun i hi h => by omega)
  have k5 : Kept (fun _ => False) w w5 := (k3.trans HK4.out (fun _ _ h => h)).trans HK5.out (fun i hi h => by omega)
  exact (k5.trans HK6.out (fun _ _ h => h)).trans HK7.out (fun i hi h => by omega)
end Go.Proofs.Yteijgdfgdhafnaa
