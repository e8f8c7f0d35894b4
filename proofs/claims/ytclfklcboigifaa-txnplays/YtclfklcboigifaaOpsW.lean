/-
  The order's own functions: New, Put, Get, Delete, Len, Clone; of an order, and of none.
-/
import Derived.Test.YtclfklcboigifaaInsW
namespace Go.Proofs.Ytclfklcboigifaa
open Go.RowKit Go.Shelf
set_option linter.unusedSimpArgs false
set_option linter.unusedVariables false

theorem built0W : Try.prog.built 87 [] = some #[.slice none 0 0] := by kernel_rfl
theorem r_build0W {ρ : Operand → Value} {w : World} {dst : Option Tmp} {ty : TypeId} {pos : String} {aft : Array Edge} {gd : Option (Nat × Bool)} : (execOp ρ ⟨dst, .build 87 #[], ty, pos, aft, gd⟩).run Try.prog w = .ok (.value (.agg #[.slice none 0 0])) w := by
  have hr := run_build (P := Try.prog) w 87 #[] _ (by simpa using built0W)
  simp [execOp, hr]
set_option maxHeartbeats 400000 in
theorem new_atW (w : World) : Calls Try.prog 25 #[] w fun e w' => e = .returned (.pointer (some ⟨w.heap.size, 0, none⟩)) ∧ MapW w' w.heap.size (.slice none 0 0) [] ∧ Kept (fun _ => False) w w' := by
  go_enter Try.func25, Try.ntmps25
  go_wp2_with (with_reducible refine stop_build 87 ?_)
  refine hide ?_
  refine wpList_run rfl r_build0W ?_
  refine aw_box (v := .agg #[.slice none 0 0]) rfl ?_
  intro w1 hb1 hk1 hz1
  have HZ := hide hz1
  clear hz1
  simp only [put_lit, List.set_cons_succ, List.set_cons_zero]
  go_wp2
  go_ret
  exact ⟨rfl, ⟨hb1, World.ownsRow_nil _ _ _ _, List.Pairwise.nil⟩, hk1⟩

theorem own_valW {w : World} {l : List EntB} {g : Nat} {C : List Value} (hb : Blk w g (encE ekB evB l ++ C) 85) (i : Nat) (h : i < l.length) : w.cell? ⟨g, i * 2 + 1, none⟩ = some (Value.slice (l[i].2).a (l[i].2).n (l[i].2).c) := by
  have hl := encE_length (ek := ekB) (ev := evB) l
  rw [hb.cell, List.getElem?_append_left (by omega)]
  exact encE_val l i h
theorem own_keyW {w : World} {l : List EntB} {g : Nat} {C : List Value} (hb : Blk w g (encE ekB evB l ++ C) 85) (i : Nat) (h : i < l.length) : w.cell? ⟨g, i * 2, none⟩ = some (Value.int .i64 (l[i].1)) := by
  have hl := encE_length (ek := ekB) (ev := evB) l
  rw [hb.cell, List.getElem?_append_left (by omega)]
  exact encE_key l i h

/-- What a change of an order leaves. -/
def StepW (w w' : World) (p : Nat) (v : Value) (l' : List EntB) : Prop :=
  ∃ v', MapW w' p v' l' ∧ Kept (footM p v) w w' ∧ (∀ k, footM p v' k → footM p v k ∨ w.heap.size ≤ k)

set_option maxHeartbeats 1000000 in
theorem put_nilW (w : World) (k : Int) (x : Sl) : Calls Try.prog 22 #[.pointer none, (Value.int .i64 (k)), (Value.slice (x).a (x).n (x).c)] w fun e w' => e = .returned (.bool false) ∧ Kept (fun _ => False) w w' := by
  go_enter Try.func22, Try.ntmps22
  go_wp2
  go_ret
  exact ⟨rfl, Kept.refl _ _⟩

theorem built2W (k : Int) (x : Sl) {w : World} {ρ : Operand → Value} {dst : Option Tmp} {ty : TypeId} {pos : String} {aft : Array Edge} {gd : Option (Nat × Bool)} {a b : Operand} (ha : ρ a = (Value.int .i64 (k))) (hb : ρ b = (Value.slice (x).a (x).n (x).c)) :
    (execOp ρ ⟨dst, .build 85 #[(0, a), (1, b)], ty, pos, aft, gd⟩).run Try.prog w = .ok (.value (.agg #[(Value.int .i64 (k)), (Value.slice (x).a (x).n (x).c)])) w := by
  obtain ⟨i0, hi0, hz0, hs0, hb0⟩ := info_parts Try.info85
  have hpl : ∀ (fields : Array Field), Try.prog.underlying 85 = some (.struct fields) → fields.toList.mapM (fun f => (Try.prog.info? f.type).map fun i => (f.offset, i.size)) = some [(0, 1), (1, 1)] := by
    intro fields hf
    rw [Try.underlying85] at hf
    cases hf
    kernel_rfl
  exact (run_build_two (v1 := (Value.int .i64 (k))) (v2 := (Value.slice (x).a (x).n (x).c)) (M1 := [(Value.int .i64 (k))]) (M2 := [(Value.slice (x).a (x).n (x).c)]) hi0 hz0 Try.underlying85 (hpl _ Try.underlying85) ha hb rfl rfl rfl rfl (by simp [Value.cells]) (by simp [Value.cells])).trans (by simp [put, Value.cells])

set_option maxRecDepth 100000 in
set_option maxHeartbeats 2000000 in
theorem put_atW (w : World) (p : Nat) (v : Value) (l : List EntB) (k : Int) (x : Sl) (h : MapW w p v l) (hl : l.length ≤ 1000000) :
    Calls Try.prog 22 #[.pointer (some ⟨p, 0, none⟩), (Value.int .i64 (k)), (Value.slice (x).a (x).n (x).c)] w fun e w' => e = .returned (.bool (!hasK ltI l k)) ∧ StepW w w' p v (putK ltI l k x) := by
  have H1 := hide (find_atW w p v l k h hl)
  have hsd := h.srt.put strictI k x
  cases hh : hasK ltI l k with
  | true =>
    have hlt := hasK_lt hh
    have hkey := hasK_key strictI hh
    have hput : putK ltI l k x = l.set (posK ltI l k) (k, x) := by simp [putK, hh]
    rw [hput] at hsd ⊢
    have HS := hide hsd
    rw [hh] at H1
    have HM := hide h
    have Hn := hide (ownsRow_blk_ne h.own h.blk (by decide))
    rcases ownsRow_blk h.own with ⟨_, h0, _⟩ | ⟨g, cap, C, rfl, hb, hnc, hcm, hC⟩
    · omega
    have henc := encE_set (ek := ekB) (ev := evB) l (posK ltI l k) hlt x
    rw [hkey] at henc
    have HE := hide henc
    have HB := hide hb
    have HC := hide hC
    clear h hh hput hsd hkey henc hb hC
    generalize posK ltI l k = a at *
    have hcm2 := hcm
    unfold maxLen at hcm
    go_enter Try.func22, Try.ntmps22
    go_wp2_with fail
    refine H1.out.mono ?_
    rintro e w2 ⟨rfl, hk⟩
    have c0 : w2.cell? ⟨p, 0, none⟩ = some (.slice (some ⟨g, 0, none⟩) l.length cap) := (HM.out.kept hk (fun h => h) (fun _ _ h => h)).blk.cell 0
    have hB2 := hk.blk HB.out (fun h => h)
    have c1 := own_valW hB2 a hlt
    have f1 : w2.frozen? ⟨g, a * 2 + 1, none⟩ = false := hB2.frozen _
    have HB2 := hide hB2
    clear hB2
    generalize l[a].2 = old at c1
    go_wp2
    go_ret
    have hb3 := HB2.out.setCell (a * 2 + 1) (Value.slice (x).a (x).n (x).c)
    rw [List.set_append_left _ _ (by rw [encE_length]; omega), ← HE.out] at hb3
    refine ⟨rfl, .slice (some ⟨g, 0, none⟩) l.length cap, ⟨(Kept.setCell (S := fun k => k = g) w2 ⟨g, a * 2 + 1, none⟩ _ rfl).blk (hk.blk HM.out.blk (fun h => h)) (fun e => Hn.out (by rw [e]; rfl)), ?_, HS.out⟩, ?_, fun _ h => .inl h⟩
    · unfold OwnW
      rw [List.length_set]
      exact ownsRow_of hb3 (by rw [encE_length, List.length_set]) hnc hcm2 HC.out
    · exact (hk.mono (T := footM p (.slice (some ⟨g, 0, none⟩) l.length cap)) (fun _ _ h => h.elim)).trans (Kept.setCell (S := fun k => k = g) w2 ⟨g, a * 2 + 1, none⟩ _ rfl) (fun j hj h => .inr (by rw [h]; rfl))
  | false =>
    have hput : putK ltI l k x = insK l (posK ltI l k) (k, x) := by simp [putK, hh]
    have hle := posK_le ltI l k
    rw [hput] at hsd ⊢
    have HS := hide hsd
    rw [hh] at H1
    have HM := hide h
    have Hn := hide (ownsRow_blk_ne h.own h.blk (by decide))
    obtain ⟨i0, hi0, hz0, hs0, hb0⟩ := info_parts Try.info85
    have Hi0 := hide hi0
    have Hz0 := hide hz0
    have Hs0 := hide hs0
    clear h hh hput hsd hi0 hz0 hs0 hb0
    generalize posK ltI l k = a at *
    go_enter Try.func22, Try.ntmps22
    go_wp2_with fail
    refine H1.out.mono ?_
    rintro e w2 ⟨rfl, hk⟩
    have hM2 := HM.out.kept hk (fun h => h) (fun _ _ h => h)
    have c0 : w2.cell? ⟨p, 0, none⟩ = some v := hM2.blk.cell 0
    have HM2 := hide hM2
    clear hM2
    go_wp2_with (with_reducible refine stop_build 85 ?_)
    refine hide ?_
    refine wpList_run rfl (built2W k x rfl rfl) ?_
    refine wpList_run rfl (run_buildSlice_one (M := [(Value.int .i64 (k)), (Value.slice (x).a (x).n (x).c)]) Try.underlying80 Hi0.out Hz0.out Hs0.out (by simp) (by simp) (.inl (eval_put_eq _ _ _ (by simp)))) ?_
    have hb3 := Blk.new w2 [(Value.int .i64 (k)), (Value.slice (x).a (x).n (x).c)] 85
    have hk3 : Kept (fun _ => False) w2 (w2.alloc (.cells [(Value.int .i64 (k)), (Value.slice (x).a (x).n (x).c)].toArray 85)) := Kept.alloc _ _ _
    generalize w2.alloc (.cells [(Value.int .i64 (k)), (Value.slice (x).a (x).n (x).c)].toArray 85) = w3 at hb3 hk3
    have hM3 := HM2.out.kept hk3 (fun h => h) (fun _ _ h => h)
    have HD := hide (ins_atW w3 v l a w2.heap.size (k, x) hM3.own hle hb3 (fun e => by have := ownsRow_lt HM2.out.own _ e; omega) hl)
    have HM3 := hide hM3
    clear hM3 hb3 c0
    simp only [put_lit, List.set_cons_succ, List.set_cons_zero]
    go_wp2_with fail
    refine HD.out.mono ?_
    rintro e w4 ⟨v', rfl, hO4, hk4, hv4⟩
    have hb4 : Blk w4 p [v] 87 := hk4.blk HM3.out.blk Hn.out
    have c4 : w4.cell? ⟨p, 0, none⟩ = some v := hb4.cell 0
    have f4 : w4.frozen? ⟨p, 0, none⟩ = false := hb4.frozen 0
    have HO4 := hide hO4
    have HV4 := hide hv4
    have HB4 := hide hb4
    obtain ⟨ao, n3, cp3, rfl⟩ := ownsRow_slice3 hO4
    clear hO4 hv4 hb4
    go_wp2
    go_ret
    have hk24 := hk.trans hk3 (fun _ _ h => h)
    refine ⟨rfl, _, ⟨HB4.out.setCell 0 _, ownsRow_kept HO4.out (Kept.setCell (S := fun k => k = p) w4 ⟨p, 0, none⟩ _ rfl) (fun j hj e => ?_), HS.out⟩, ?_, ?_⟩
    · rcases HV4.out with h | ⟨g, h, hg⟩
      · rw [h] at hj
        exact Hn.out (by rw [hj, e])
      · rw [h] at hj
        cases hj
        have := HM3.out.blk.lt
        omega
    · exact ((hk24.mono (T := footM p v) (fun _ _ h => h.elim)).trans hk4 (fun j hj h => .inr h)).trans (Kept.setCell (S := fun k => k = p) w4 ⟨p, 0, none⟩ _ rfl) (fun j hj h => .inl h)
    · rintro j (h | h)
      · exact .inl (.inl h)
      · rcases HV4.out with h' | ⟨g, h', hg⟩
        · rw [h'] at h
          exact .inl (.inr h)
        · rw [h'] at h
          cases h
          have := hk24.size
          exact .inr (by omega)

end Go.Proofs.Ytclfklcboigifaa
