/-
  New, Clone.
-/
import Derived.Test.YteijgdfgdhafnaaMkRep
namespace Go.Proofs.Yteijgdfgdhafnaa
open Go.RowKit Go.Shelf
set_option linter.unusedSimpArgs false
set_option linter.unusedVariables false
set_option maxRecDepth 100000

/-- A struct of one field of one cell is built. -/
theorem run_build_one {P : Program} {ρ : Operand → Value} {w : World} {dst : Option Tmp} {t ty : TypeId} {x : Operand} {pos : String} {aft : Array Edge} {gd : Option (Nat × Bool)} {i : TypeInfo} {z z1 : Value} {fields : Array Field} {v : Value}
    (hi : P.info? t = some i) (hz : i.zero = some z) (hu : P.underlying t = some (.struct fields)) (hp : fields.toList.mapM (fun f => (P.info? f.type).map fun i => (f.offset, i.size)) = some [(0, 1)])
    (hx : ρ x = v) (h1 : v.cells = #[v]) (hzc : z.cells = #[z1]) :
    (execOp ρ ⟨dst, .build t #[(0, x)], ty, pos, aft, gd⟩).run P w = .ok (.value (.agg #[v])) w := by
  have hb : P.built t [(0, v)] = some #[v] := by
    simp only [Program.built, hi, hu, hz, hp]
    rw [fill_one _ _ 0 v _ 0 [v] h1 (by simp) (by simp [hzc]), fill_nil, put_whole _ _ (by simp [hzc])]
  have hr := run_build (P := P) w t #[(0, v)] _ (by simpa using hb)
  simp [execOp, hx, hr]
theorem Try.buildMk {ρ : Operand → Value} {w : World} {dst : Option Tmp} {ty : TypeId} {x : Operand} {pos : String} {aft : Array Edge} {gd : Option (Nat × Bool)} {v : Value} (hx : ρ x = v) (h1 : v.cells = #[v]) :
    (execOp ρ ⟨dst, .build 51 #[(0, x)], ty, pos, aft, gd⟩).run Try.prog w = .ok (.value (.agg #[v])) w := by
  obtain ⟨i0, hi0, hz0, hs0, hb0⟩ := info_parts Try.info51
  exact run_build_one (z1 := .slice none 0 0) hi0 hz0 Try.underlying51 (by kernel_rfl) hx h1 rfl
theorem mnew_no (w : World) (b n : Int) (h : mkNew b n = false) : Calls Try.prog 6 #[.int .i64 b, .int .i64 n] w fun e w' => e = .returned (.tuple #[.pointer none, .int .i64 2]) ∧ w = w' := by
  by_cases h1 : b < 1
  · clear h
    go_enter Try.func6, Try.ntmps6
    go_wp2
    go_ret2
    exact ⟨rfl, rfl⟩
  · by_cases h2 : 64 < b
    · clear h
      go_enter Try.func6, Try.ntmps6
      go_wp2
      go_ret2
      exact ⟨rfl, rfl⟩
    · have HC := hide (isCommit_at w n false (by
        unfold mkNew at h
        rw [decide_eq_true (by omega), Bool.true_and] at h
        exact h))
      clear h
      go_enter Try.func6, Try.ntmps6
      go_wp2_with (go_at_call 15; refine HC.out.mono ?_; rintro e w1 ⟨rfl, rfl⟩)
      go_ret2
      exact ⟨rfl, rfl⟩
set_option maxHeartbeats 1000000 in
theorem mnew_ok (w : World) (k : Nat) (n : Int) (hk : 1 ≤ k ∧ k ≤ 64) (hn : mkNum n = true) : Calls Try.prog 6 #[.int .i64 k, .int .i64 n] w fun e w' => ∃ b g, e = .returned (.tuple #[.pointer (some ⟨b, 0, none⟩), .int .i64 0]) ∧ Kept (fun _ => False) w w' ∧ w.heap.size ≤ b ∧ w.heap.size ≤ g ∧ MkAt w' b g k [] (List.replicate k n) := by
  have HC := hide (isCommit_at w n true hn)
  have Hk := hide hk
  have h1 : ¬ ((k : Int) < 1) := by omega
  have h2 : ¬ (64 < (k : Int)) := by omega
  obtain ⟨i3, hi3, hz3, hs3, hb3⟩ := info_parts Try.info3
  have Hi3 := hide hi3
  have Hz3 := hide hz3
  have Hs3 := hide hs3
  clear hk hn hi3 hz3 hs3 hb3
  go_enter Try.func6, Try.ntmps6
  go_wp2_with (first
    | (go_at_call 15; refine HC.out.mono ?_; rintro e w1 ⟨rfl, rfl⟩)
    | (with_reducible refine stop_bs1 28 ?_))
  refine hide ?_
  refine wpList_run rfl (run_bs1 Try.underlying28 Hi3.out Hz3.out Hs3.out [.int .i64 n] rfl (by simp) (by simp [Value.cells]) rfl) ?_
  have hb1 := Blk.new w [.int .i64 n] 3
  have hk1 : Kept (fun _ => False) w (w.alloc (.cells [Value.int .i64 n].toArray 3)) := Kept.alloc _ _ _
  generalize w.alloc (.cells [Value.int .i64 n].toArray 3) = w1 at hb1 hk1
  have HR := hide (repeat_at w1 w.heap.size k n Hk.out hb1)
  have HK1 := hide hk1
  clear hb1 hk1
  try simp only [put_lit, put_none, List.set_cons_succ, List.set_cons_zero]
  go_wp2_with fail
  refine HR.out.mono ?_
  rintro e w2 ⟨g, rfl, hg, hgb, hk2⟩
  have HG := hide hgb
  have HK2 := hide hk2
  have Hg := hide hg
  clear hgb hk2 hg HR
  go_wp2_with (first
    | (with_reducible refine wpList_run rfl (Try.buildMk rfl rfl) ?_)
    | ((with_reducible refine aw_box (v := .agg #[.slice (some ⟨g, 0, none⟩) k k]) rfl ?_); intro w3 hw3 hk3 hz3; have HW3 := hide hw3; have HK3 := hide hk3; clear hw3 hk3 hz3))
  go_ret2
  have hs1 := HK1.out.size
  have hs2 := HK2.out.size
  refine ⟨_, g, rfl, (HK1.out.trans HK2.out (fun _ _ h => h)).trans HK3.out (fun _ _ h => h), by omega, by have := Hg.out; omega, ?_⟩
  have hl : (List.replicate k n).length = k := List.length_replicate
  refine ⟨by rw [hl]; exact HW3.out, by rw [List.append_nil]; exact HK3.out.blk HG.out (fun h => h), by rw [hl]; exact Nat.le_refl _, by rw [hl]; exact Hk.out.2⟩
theorem r_bs0n {P : Program} {ρ : Operand → Value} {w : World} {dst : Option Tmp} {t ty e : TypeId} {pos : String} {aft : Array Edge} {gd : Option (Nat × Bool)} {i : TypeInfo} (ht : P.underlying t = some (.slice e)) (hi : P.info? e = some i) :
    (execOp ρ ⟨dst, .buildSlice t 0 #[], ty, pos, aft, gd⟩).run P w = .ok (.value (.slice (some ⟨w.heap.size, 0, none⟩) 0 0)) (w.alloc (.cells #[] e)) := by
  simp [execOp, Instr.buildSlice, run_underlying ht, sizeOf, typeInfo, hi, fill_nil, newRow]
  rw [show Array.range 0 = #[] by simp [Array.range]]
  simp
theorem stop_bs0 {P : Program} {ops : Array Oper} {Q : Exit → Act → World → Prop} {a : Act} {w : World} {rest : List Oper} {dst : Option Tmp} {ty : TypeId} {pos : String} {aft : Array Edge} (t : TypeId) (h : Hid (wpList P ops Q (⟨dst, .buildSlice t 0 #[], ty, pos, aft, none⟩ :: rest) a w)) : wpList P ops Q (⟨dst, .buildSlice t 0 #[], ty, pos, aft, none⟩ :: rest) a w := h.out
/-- append([]int{}, v...) -/
theorem app0 (w : World) (ad : Addr) (n c : Nat) (l : List Int) (hl : l.length ≤ 1000) (hs : SrcV w (.slice (some ad) n c) (ZV l)) :
    ∃ v' w2, (Builtin.append_ #[28, 28] 28 #[.slice (some ⟨w.heap.size, 0, none⟩) 0 0, .slice (some ad) n c]).run Try.prog (w.alloc (.cells #[] 3)) = .ok v' w2 ∧ GathZ w w2 v' l := by
  obtain ⟨i3, hi3, hz3, hs3, hb3⟩ := info_parts Try.info3
  have hb1 := Blk.new w [] 3
  have hk1 : Kept (fun _ => False) w (w.alloc (.cells ([] : List Value).toArray 3)) := Kept.alloc _ _ _
  rw [show (#[] : Array Value) = ([] : List Value).toArray from rfl]
  generalize w.alloc (.cells ([] : List Value).toArray 3) = w1 at hb1 hk1
  have ho : w1.ownsRow 0 3 1 (.slice (some ⟨w.heap.size, 0, none⟩) 0 0) 0 [] := ownsRow_of (xs := []) (C := []) hb1 rfl (Nat.le_refl _) (Nat.zero_le _) rfl
  obtain ⟨v', w2, hr, ho2, hk2, hv2⟩ := append_row (P := Try.prog) (ty := 28) Try.underlying28 hi3 hz3 hs3 hb3 rfl (by decide) ho (hs.kept hk1 (fun _ _ h => h)) (ZV_one l) (by rw [ZV_length]; omega)
  rw [Nat.zero_add, ZV_length, List.nil_append] at ho2
  refine ⟨v', w2, hr, ho2, ?_, hk1.trans hk2 (fun i hi h => by simp [Value.ownBlock] at h; omega)⟩
  intro b hb
  rcases hv2 with h | h
  · rw [h] at hb; simp [Value.ownBlock] at hb; omega
  · rw [h] at hb; simp at hb; have := hk1.size; omega
set_option maxHeartbeats 1000000 in
theorem iclone_at (w : World) (ad : Addr) (n c : Nat) (l : List Int) (hl : l.length ≤ 1000) (hs : SrcV w (.slice (some ad) n c) (ZV l)) :
    Calls Try.prog 19 #[.slice (some ad) n c] w fun e w' => ∃ v, e = .returned v ∧ GathZ w w' v l := by
  have q25 : ∀ (w : World) (a : Option Addr) (n c : Nat), (binOp .eql 28 (.slice a n c) (.slice none 0 0)).run Try.prog w = .ok (.bool a.isNone) w := fun w a n c => by simp only [binOp]; simp [Op.equal, Op.maxDepth, Lib.run_equalIn_slice_nil w 9999 28 3 a n c 0 0 Try.underlying28]
  obtain ⟨v', w2, hr, hg⟩ := app0 w ad n c l hl hs
  have HR := hide hr
  have HG := hide hg
  obtain ⟨i3, hi3, hz3, hs3, hb3⟩ := info_parts Try.info3
  have Hi3 := hide hi3
  clear hl hs hr hg hi3 hz3 hs3 hb3
  go_enter Try.func19, Try.ntmps19
  go_wp2_with (with_reducible refine stop_bs0 28 ?_)
  refine hide ?_
  refine wpList_run rfl (r_bs0n Try.underlying28 Hi3.out) ?_
  clear q25
  try simp only [put_lit, put_none, List.set_cons_succ, List.set_cons_zero]
  generalize w.alloc (.cells #[] 3) = w1 at HR
  go_wp2_with (with_reducible refine stop_append2 28 28 ?_)
  refine hide ?_
  refine wpList_run rfl (r_app rfl rfl HR.out) ?_
  try simp only [put_lit, put_none, List.set_cons_succ, List.set_cons_zero]
  obtain ⟨ao, ac, rfl⟩ := ownsRow_slice HG.out.1
  clear HR
  go_wp2
  go_ret
  exact ⟨_, rfl, HG.out⟩
theorem MkAt.srcv {w : World} {b g cap : Nat} {C : List Value} {l : List Int} (h : MkAt w b g cap C l) : SrcV w (.slice (some ⟨g, 0, none⟩) l.length cap) (ZV l) := by
  refine ⟨_, cap, by rw [ZV_length], by rw [ZV_length]; exact h.2.2.1, fun _ => ⟨g, 0, rfl, ?_⟩, fun h => by cases h⟩
  have := h.2.1.cells 0 (ZV l).length
  rw [List.drop_zero, List.take_left' rfl] at this
  exact this
theorem clone_at (w : World) (b g cap : Nat) (C : List Value) (l : List Int) (h : MkAt w b g cap C l) (h1 : 1 ≤ l.length) : Calls Try.prog 12 #[.pointer (some ⟨b, 0, none⟩)] w fun e w' => ∃ b' g' cap' C', e = .returned (.pointer (some ⟨b', 0, none⟩)) ∧ w.heap.size ≤ b' ∧ w.heap.size ≤ g' ∧ MkAt w' b' g' cap' C' l ∧ Kept (fun _ => False) w w' := by
  have c0 := h.cell
  have HC := hide (iclone_at w ⟨g, 0, none⟩ l.length cap l (by have := h.2.2.2; omega) h.srcv)
  have H64 := hide h.2.2.2
  obtain ⟨n, hn⟩ : ∃ n, l.length = n := ⟨_, rfl⟩
  have Hn := hide hn
  have H1 := hide h1
  rw [hn] at c0 HC
  clear h hn h1
  go_enter Try.func12, Try.ntmps12
  go_wp2_with fail
  refine HC.out.mono ?_
  rintro e w2 ⟨v, rfl, hg⟩
  rcases ownsRow_blk hg.1 with ⟨_, h0, _⟩ | ⟨g', cap', C', rfl, hb', hnc, hcm, hC⟩
  · have := H1.out; omega
  have HB := hide hb'
  have HN := hide hnc
  have HK2 := hide hg.2.2
  have HF := hide (hg.2.1 g' rfl)
  rw [Hn.out] at HN ⊢
  clear hg hb' hnc hcm hC HC
  go_wp2_with (first
    | (with_reducible refine wpList_run rfl (Try.buildMk rfl rfl) ?_)
    | ((with_reducible refine aw_box (v := .agg #[.slice (some ⟨g', 0, none⟩) n cap']) rfl ?_); intro w3 hw3 hk3 hz3; have HW3 := hide hw3; have HK3 := hide hk3; clear hw3 hk3 hz3))
  go_ret
  refine ⟨_, g', cap', C', rfl, HK2.out.size, HF.out, ⟨by rw [Hn.out]; exact HW3.out, HK3.out.blk HB.out (fun h => h), by rw [Hn.out]; exact HN.out, H64.out⟩, HK2.out.trans HK3.out (fun _ _ h => h)⟩
end Go.Proofs.Yteijgdfgdhafnaa
