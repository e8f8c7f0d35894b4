/-
  The order's own functions: New, Put, Get, Delete, Len, Clone; of an order, and of none.
-/
import Derived.Test.YtkchlmpfegjkfaaDelI
namespace Go.Proofs.Ytkchlmpfegjkfaa
open Go.RowKit Go.Shelf
set_option linter.unusedSimpArgs false
set_option linter.unusedVariables false

theorem built0I : Try.prog.built 59 [] = some #[.slice none 0 0] := by kernel_rfl
theorem r_build0I {ρ : Operand → Value} {w : World} {dst : Option Tmp} {ty : TypeId} {pos : String} {aft : Array Edge} {gd : Option (Nat × Bool)} : (execOp ρ ⟨dst, .build 59 #[], ty, pos, aft, gd⟩).run Try.prog w = .ok (.value (.agg #[.slice none 0 0])) w := by
  have hr := run_build (P := Try.prog) w 59 #[] _ (by simpa using built0I)
  simp [execOp, hr]
set_option maxHeartbeats 400000 in
theorem new_atI (w : World) : Calls Try.prog 6 #[] w fun e w' => e = .returned (.pointer (some ⟨w.heap.size, 0, none⟩)) ∧ MapI w' w.heap.size (.slice none 0 0) [] ∧ Kept (fun _ => False) w w' := by
  go_enter Try.func6, Try.ntmps6
  go_wp2_with (with_reducible refine stop_build 59 ?_)
  refine hide ?_
  refine wpList_run rfl r_build0I ?_
  refine aw_box (v := .agg #[.slice none 0 0]) rfl ?_
  intro w1 hb1 hk1 hz1
  have HZ := hide hz1
  clear hz1
  simp only [put_lit, List.set_cons_succ, List.set_cons_zero]
  go_wp2
  go_ret
  exact ⟨rfl, ⟨hb1, World.ownsRow_nil _ _ _ _, List.Pairwise.nil⟩, hk1⟩

set_option maxHeartbeats 400000 in
theorem len_atI (w : World) (p : Nat) (v : Value) (l : List EntI) (h : MapI w p v l) : Calls Try.prog 17 #[.pointer (some ⟨p, 0, none⟩)] w fun e w' => e = .returned (.int .i64 (l.length : Nat)) ∧ w = w' := by
  have H1 := hide (list_atI w p v h.blk)
  rcases ownsRow_blk h.own with ⟨rfl, h0, _⟩ | ⟨g, cap, C, rfl, hb, hnc, hcm, hC⟩
  · have H0 := hide h0
    clear h h0
    go_enter Try.func17, Try.ntmps17
    go_wp2_with fail
    refine H1.out.mono ?_
    rintro e w1 ⟨rfl, rfl⟩
    go_wp2
    go_ret
    exact ⟨by rw [H0.out]; rfl, rfl⟩
  · clear h hb hC
    go_enter Try.func17, Try.ntmps17
    go_wp2_with fail
    refine H1.out.mono ?_
    rintro e w1 ⟨rfl, rfl⟩
    go_wp2
    go_ret
    exact ⟨rfl, rfl⟩
set_option maxHeartbeats 400000 in
theorem len_nilI (w : World) : Calls Try.prog 17 #[.pointer none] w fun e w' => e = .returned (.int .i64 0) ∧ w = w' := by
  go_enter Try.func17, Try.ntmps17
  go_wp2_with fail
  refine (list_nilI w).mono ?_
  rintro e w1 ⟨rfl, rfl⟩
  go_wp2
  go_ret
  exact ⟨rfl, rfl⟩

/-- The value that a key has. -/
def getKI (l : List EntI) (k : Int) : ByteArray := if hasK ltI l k then (l[posK ltI l k]?.map (·.2)).getD ⟨#[]⟩ else ⟨#[]⟩
theorem getK_hasI {l : List EntI} {k : Int} (h : hasK ltI l k = true) : getKI l k = (l[posK ltI l k]'(hasK_lt h)).2 := by
  simp [getKI, h, List.getElem?_eq_getElem (hasK_lt h)]
theorem getK_notI {l : List EntI} {k : Int} (h : hasK ltI l k = false) : getKI l k = ⟨#[]⟩ := by
  simp [getKI, h]

theorem own_valI {w : World} {l : List EntI} {g : Nat} {C : List Value} (hb : Blk w g (encE ekI evI l ++ C) 62) (i : Nat) (h : i < l.length) : w.cell? ⟨g, i * 2 + 1, none⟩ = some (Value.string (l[i].2)) := by
  have hl := encE_length (ek := ekI) (ev := evI) l
  rw [hb.cell, List.getElem?_append_left (by omega)]
  exact encE_val l i h
theorem own_keyI {w : World} {l : List EntI} {g : Nat} {C : List Value} (hb : Blk w g (encE ekI evI l ++ C) 62) (i : Nat) (h : i < l.length) : w.cell? ⟨g, i * 2, none⟩ = some (Value.int .i64 (l[i].1)) := by
  have hl := encE_length (ek := ekI) (ev := evI) l
  rw [hb.cell, List.getElem?_append_left (by omega)]
  exact encE_key l i h

set_option maxHeartbeats 1000000 in
theorem get_atI (w : World) (p : Nat) (v : Value) (l : List EntI) (k : Int) (h : MapI w p v l) (hl : l.length ≤ 1000000) :
    Calls Try.prog 13 #[.pointer (some ⟨p, 0, none⟩), (Value.int .i64 (k))] w fun e w' => e = .returned (.tuple #[(Value.string (getKI l k)), .bool (hasK ltI l k)]) ∧ Kept (fun _ => False) w w' := by
  have H1 := hide (find_atI w p v l k h hl)
  cases hh : hasK ltI l k with
  | true =>
    have hlt := hasK_lt hh
    have hg := getK_hasI hh
    rcases ownsRow_blk h.own with ⟨_, h0, _⟩ | ⟨g, cap, C, rfl, hb, hnc, hcm, hC⟩
    · omega
    have HB := hide hb
    have HM := hide h.blk
    have hval : ∀ w', Kept (fun _ => False) w w' → w'.cell? ⟨g, posK ltI l k * 2 + 1, none⟩ = some (Value.string (getKI l k)) := by
      intro w' hk
      rw [hg]
      exact own_valI (hk.blk hb (fun h => h)) _ hlt
    have HV := hide hval
    rw [hh] at H1
    clear h hb hC hg hh hval
    generalize posK ltI l k = a at *
    generalize getKI l k = y at *
    unfold maxLen at hcm
    go_enter Try.func13, Try.ntmps13
    go_wp2_with fail
    refine H1.out.mono ?_
    rintro e w2 ⟨rfl, hk⟩
    have c0 : w2.cell? ⟨p, 0, none⟩ = some (.slice (some ⟨g, 0, none⟩) l.length cap) := (hk.blk HM.out (fun h => h)).cell 0
    have c1 := HV.out w2 hk
    go_wp2
    go_ret2
    exact ⟨rfl, hk⟩
  | false =>
    have hg := getK_notI hh
    rw [hh] at H1
    have HG := hide hg
    generalize posK ltI l k = a at *
    generalize getKI l k = y at *
    clear h hh hg
    go_enter Try.func13, Try.ntmps13
    go_wp2_with fail
    refine H1.out.mono ?_
    rintro e w2 ⟨rfl, hk⟩
    go_wp2
    go_ret2
    exact ⟨by rw [HG.out]; rfl, hk⟩
set_option maxHeartbeats 1000000 in
theorem get_nilI (w : World) (k : Int) : Calls Try.prog 13 #[.pointer none, (Value.int .i64 (k))] w fun e w' => e = .returned (.tuple #[(Value.string (⟨#[]⟩)), .bool false]) ∧ Kept (fun _ => False) w w' := by
  go_enter Try.func13, Try.ntmps13
  go_wp2_with fail
  refine (find_nilI w k).mono ?_
  rintro e w2 ⟨rfl, hk⟩
  go_wp2
  go_ret2
  exact ⟨rfl, hk⟩

theorem ownsRow_slice {w : World} {e : TypeId} {sz n : Nat} {v : Value} {xs : List Value} (h : w.ownsRow 0 e sz v n xs) : ∃ ao m c, v = .slice ao m c := by
  rcases h.2 with ⟨rfl, _⟩ | ⟨g, cap, cur, rfl, _⟩
  · exact ⟨_, _, _, rfl⟩
  · exact ⟨_, _, _, rfl⟩
/-- What a change of an order leaves. -/
def StepI (w w' : World) (p : Nat) (v : Value) (l' : List EntI) : Prop :=
  ∃ v', MapI w' p v' l' ∧ Kept (footM p v) w w' ∧ (∀ k, footM p v' k → footM p v k ∨ w.heap.size ≤ k)

set_option maxRecDepth 100000 in
set_option maxHeartbeats 2000000 in
theorem delete_atI (w : World) (p : Nat) (v : Value) (l : List EntI) (k : Int) (h : MapI w p v l) (hl : l.length ≤ 1000000) :
    Calls Try.prog 11 #[.pointer (some ⟨p, 0, none⟩), (Value.int .i64 (k))] w fun e w' => e = .returned (.bool (hasK ltI l k)) ∧ StepI w w' p v (delK ltI l k) := by
  have H1 := hide (find_atI w p v l k h hl)
  have hsd := h.srt.del k
  cases hh : hasK ltI l k with
  | true =>
    have hlt := hasK_lt hh
    have hdel : delK ltI l k = remK l (posK ltI l k) := by simp [delK, hh]
    rw [hdel] at hsd ⊢
    have HS := hide hsd
    rw [hh] at H1
    have HM := hide h
    have Hn := hide (ownsRow_blk_ne h.own h.blk (by decide))
    generalize posK ltI l k = a at *
    clear h hh hdel hsd
    go_enter Try.func11, Try.ntmps11
    go_wp2_with fail
    refine H1.out.mono ?_
    rintro e w2 ⟨rfl, hk⟩
    have hM2 := HM.out.kept hk (fun h => h) (fun _ _ h => h)
    have c0 : w2.cell? ⟨p, 0, none⟩ = some v := hM2.blk.cell 0
    have HM2 := hide hM2
    have HD := hide (del_atI w2 v l a hM2.own hlt hl)
    have haa : IntKind.i64.wrap ((a : Int) + 1) = ((a + 1 : Nat) : Int) := by rw [IntKind.wrap_i64]; omega
    clear hM2
    go_wp2_with fail
    refine HD.out.mono ?_
    rintro e w3 ⟨v', rfl, hO3, hk3, hv3⟩
    have hb3 : Blk w3 p [v] 59 := hk3.blk HM2.out.blk Hn.out
    have c3 : w3.cell? ⟨p, 0, none⟩ = some v := hb3.cell 0
    have f3 : w3.frozen? ⟨p, 0, none⟩ = false := hb3.frozen 0
    have HO3 := hide hO3
    have HV3 := hide hv3
    have HB3 := hide hb3
    obtain ⟨ao, n3, cp3, rfl⟩ := ownsRow_slice hO3
    clear hO3 hv3 hb3 c0 haa
    go_wp2
    go_ret
    refine ⟨rfl, _, ⟨HB3.out.setCell 0 _, ownsRow_kept HO3.out (Kept.setCell (S := fun k => k = p) w3 ⟨p, 0, none⟩ _ rfl) (fun j hj e => ?_), HS.out⟩, ?_, ?_⟩
    · rw [HV3.out] at hj
      exact Hn.out (by rw [hj, e])
    · exact ((hk.mono (T := footM p v) (fun _ _ h => h.elim)).trans hk3 (fun j hj h => .inr h)).trans (Kept.setCell (S := fun k => k = p) w3 ⟨p, 0, none⟩ _ rfl) (fun j hj h => .inl h)
    · rintro j (h | h)
      · exact .inl (.inl h)
      · rw [HV3.out] at h
        exact .inl (.inr h)
  | false =>
    have hdel : delK ltI l k = l := by simp [delK, hh]
    rw [hdel]
    rw [hh] at H1
    have HM := hide h
    generalize posK ltI l k = a at *
    clear h hh hdel hsd
    go_enter Try.func11, Try.ntmps11
    go_wp2_with fail
    refine H1.out.mono ?_
    rintro e w2 ⟨rfl, hk⟩
    go_wp2
    go_ret
    exact ⟨rfl, v, HM.out.kept hk (fun h => h) (fun _ _ h => h), hk.mono (fun _ _ h => h.elim), fun _ h => .inl h⟩

set_option maxHeartbeats 1000000 in
theorem delete_nilI (w : World) (k : Int) : Calls Try.prog 11 #[.pointer none, (Value.int .i64 (k))] w fun e w' => e = .returned (.bool false) ∧ Kept (fun _ => False) w w' := by
  go_enter Try.func11, Try.ntmps11
  go_wp2_with fail
  refine (find_nilI w k).mono ?_
  rintro e w2 ⟨rfl, hk⟩
  go_wp2
  go_ret
  exact ⟨rfl, hk⟩
set_option maxHeartbeats 1000000 in
theorem put_nilI (w : World) (k : Int) (x : ByteArray) : Calls Try.prog 8 #[.pointer none, (Value.int .i64 (k)), (Value.string (x))] w fun e w' => e = .returned (.bool false) ∧ Kept (fun _ => False) w w' := by
  go_enter Try.func8, Try.ntmps8
  go_wp2
  go_ret
  exact ⟨rfl, Kept.refl _ _⟩

theorem built2I (k : Int) (x : ByteArray) {w : World} {ρ : Operand → Value} {dst : Option Tmp} {ty : TypeId} {pos : String} {aft : Array Edge} {gd : Option (Nat × Bool)} {a b : Operand} (ha : ρ a = (Value.int .i64 (k))) (hb : ρ b = (Value.string (x))) :
    (execOp ρ ⟨dst, .build 62 #[(0, a), (1, b)], ty, pos, aft, gd⟩).run Try.prog w = .ok (.value (.agg #[(Value.int .i64 (k)), (Value.string (x))])) w := by
  obtain ⟨i0, hi0, hz0, hs0, hb0⟩ := info_parts Try.info62
  have hpl : ∀ (fields : Array Field), Try.prog.underlying 62 = some (.struct fields) → fields.toList.mapM (fun f => (Try.prog.info? f.type).map fun i => (f.offset, i.size)) = some [(0, 1), (1, 1)] := by
    intro fields hf
    rw [Try.underlying62] at hf
    cases hf
    kernel_rfl
  exact (run_build_two (v1 := (Value.int .i64 (k))) (v2 := (Value.string (x))) (M1 := [(Value.int .i64 (k))]) (M2 := [(Value.string (x))]) hi0 hz0 Try.underlying62 (hpl _ Try.underlying62) ha hb rfl rfl rfl rfl (by simp [Value.cells]) (by simp [Value.cells])).trans (by simp [put, Value.cells])

set_option maxRecDepth 100000 in
set_option maxHeartbeats 2000000 in
theorem put_atI (w : World) (p : Nat) (v : Value) (l : List EntI) (k : Int) (x : ByteArray) (h : MapI w p v l) (hl : l.length ≤ 1000000) :
    Calls Try.prog 8 #[.pointer (some ⟨p, 0, none⟩), (Value.int .i64 (k)), (Value.string (x))] w fun e w' => e = .returned (.bool (!hasK ltI l k)) ∧ StepI w w' p v (putK ltI l k x) := by
  have H1 := hide (find_atI w p v l k h hl)
  have hsd := h.srt.put strictI k x
  cases hh : hasK ltI l k with
  | true =>
    have hlt := hasK_lt hh
    have hkey := hasK_key strictI hh
    have hput : putK ltI l k x = l.set (posK ltI l k) (k, x) := by simp [putK, hh]
    rw [hput] at hsd ⊢
    have HS := hide hsd
    rw [hh] at H1
    have HM := hide h
    have Hn := hide (ownsRow_blk_ne h.own h.blk (by decide))
    rcases ownsRow_blk h.own with ⟨_, h0, _⟩ | ⟨g, cap, C, rfl, hb, hnc, hcm, hC⟩
    · omega
    have henc := encE_set (ek := ekI) (ev := evI) l (posK ltI l k) hlt x
    rw [hkey] at henc
    have HE := hide henc
    have HB := hide hb
    have HC := hide hC
    clear h hh hput hsd hkey henc hb hC
    generalize posK ltI l k = a at *
    have hcm2 := hcm
    unfold maxLen at hcm
    go_enter Try.func8, Try.ntmps8
    go_wp2_with fail
    refine H1.out.mono ?_
    rintro e w2 ⟨rfl, hk⟩
    have c0 : w2.cell? ⟨p, 0, none⟩ = some (.slice (some ⟨g, 0, none⟩) l.length cap) := (HM.out.kept hk (fun h => h) (fun _ _ h => h)).blk.cell 0
    have hB2 := hk.blk HB.out (fun h => h)
    have c1 := own_valI hB2 a hlt
    have f1 : w2.frozen? ⟨g, a * 2 + 1, none⟩ = false := hB2.frozen _
    have HB2 := hide hB2
    clear hB2
    generalize l[a].2 = old at c1
    go_wp2
    go_ret
    have hb3 := HB2.out.setCell (a * 2 + 1) (Value.string (x))
    rw [List.set_append_left _ _ (by rw [encE_length]; omega), ← HE.out] at hb3
    refine ⟨rfl, .slice (some ⟨g, 0, none⟩) l.length cap, ⟨(Kept.setCell (S := fun k => k = g) w2 ⟨g, a * 2 + 1, none⟩ _ rfl).blk (hk.blk HM.out.blk (fun h => h)) (fun e => Hn.out (by rw [e]; rfl)), ?_, HS.out⟩, ?_, fun _ h => .inl h⟩
    · unfold OwnI
      rw [List.length_set]
      exact ownsRow_of hb3 (by rw [encE_length, List.length_set]) hnc hcm2 HC.out
    · exact (hk.mono (T := footM p (.slice (some ⟨g, 0, none⟩) l.length cap)) (fun _ _ h => h.elim)).trans (Kept.setCell (S := fun k => k = g) w2 ⟨g, a * 2 + 1, none⟩ _ rfl) (fun j hj h => .inr (by rw [h]; rfl))
  | false =>
    have hput : putK ltI l k x = insK l (posK ltI l k) (k, x) := by simp [putK, hh]
    have hle := posK_le ltI l k
    rw [hput] at hsd ⊢
    have HS := hide hsd
    rw [hh] at H1
    have HM := hide h
    have Hn := hide (ownsRow_blk_ne h.own h.blk (by decide))
    obtain ⟨i0, hi0, hz0, hs0, hb0⟩ := info_parts Try.info62
    have Hi0 := hide hi0
    have Hz0 := hide hz0
    have Hs0 := hide hs0
    clear h hh hput hsd hi0 hz0 hs0 hb0
    generalize posK ltI l k = a at *
    go_enter Try.func8, Try.ntmps8
    go_wp2_with fail
    refine H1.out.mono ?_
    rintro e w2 ⟨rfl, hk⟩
    have hM2 := HM.out.kept hk (fun h => h) (fun _ _ h => h)
    have c0 : w2.cell? ⟨p, 0, none⟩ = some v := hM2.blk.cell 0
    have HM2 := hide hM2
    clear hM2
    go_wp2_with (with_reducible refine stop_build 62 ?_)
    refine hide ?_
    refine wpList_run rfl (built2I k x rfl rfl) ?_
    refine wpList_run rfl (run_buildSlice_one (M := [(Value.int .i64 (k)), (Value.string (x))]) Try.underlying57 Hi0.out Hz0.out Hs0.out (by simp) (by simp) (.inl (eval_put_eq _ _ _ (by simp)))) ?_
    have hb3 := Blk.new w2 [(Value.int .i64 (k)), (Value.string (x))] 62
    have hk3 : Kept (fun _ => False) w2 (w2.alloc (.cells [(Value.int .i64 (k)), (Value.string (x))].toArray 62)) := Kept.alloc _ _ _
    generalize w2.alloc (.cells [(Value.int .i64 (k)), (Value.string (x))].toArray 62) = w3 at hb3 hk3
    have hM3 := HM2.out.kept hk3 (fun h => h) (fun _ _ h => h)
    have HD := hide (ins_atI w3 v l a w2.heap.size (k, x) hM3.own hle hb3 (fun e => by have := ownsRow_lt HM2.out.own _ e; omega) hl)
    have HM3 := hide hM3
    clear hM3 hb3 c0
    simp only [put_lit, List.set_cons_succ, List.set_cons_zero]
    go_wp2_with fail
    refine HD.out.mono ?_
    rintro e w4 ⟨v', rfl, hO4, hk4, hv4⟩
    have hb4 : Blk w4 p [v] 59 := hk4.blk HM3.out.blk Hn.out
    have c4 : w4.cell? ⟨p, 0, none⟩ = some v := hb4.cell 0
    have f4 : w4.frozen? ⟨p, 0, none⟩ = false := hb4.frozen 0
    have HO4 := hide hO4
    have HV4 := hide hv4
    have HB4 := hide hb4
    obtain ⟨ao, n3, cp3, rfl⟩ := ownsRow_slice hO4
    clear hO4 hv4 hb4
    go_wp2
    go_ret
    have hk24 := hk.trans hk3 (fun _ _ h => h)
    refine ⟨rfl, _, ⟨HB4.out.setCell 0 _, ownsRow_kept HO4.out (Kept.setCell (S := fun k => k = p) w4 ⟨p, 0, none⟩ _ rfl) (fun j hj e => ?_), HS.out⟩, ?_, ?_⟩
    · rcases HV4.out with h | ⟨g, h, hg⟩
      · rw [h] at hj
        exact Hn.out (by rw [hj, e])
      · rw [h] at hj
        cases hj
        have := HM3.out.blk.lt
        omega
    · exact ((hk24.mono (T := footM p v) (fun _ _ h => h.elim)).trans hk4 (fun j hj h => .inr h)).trans (Kept.setCell (S := fun k => k = p) w4 ⟨p, 0, none⟩ _ rfl) (fun j hj h => .inl h)
    · rintro j (h | h)
      · exact .inl (.inl h)
      · rcases HV4.out with h' | ⟨g, h', hg⟩
        · rw [h'] at h
          exact .inl (.inr h)
        · rw [h'] at h
          cases h
          have := hk24.size
          exact .inr (by omega)

theorem built1I {w : World} {ρ : Operand → Value} {dst : Option Tmp} {ty : TypeId} {pos : String} {aft : Array Edge} {gd : Option (Nat × Bool)} {a : Operand} {ao : Option Addr} {m c : Nat} (ha : ρ a = .slice ao m c) :
    (execOp ρ ⟨dst, .build 59 #[(0, a)], ty, pos, aft, gd⟩).run Try.prog w = .ok (.value (.agg #[.slice ao m c])) w := by
  have hb : Try.prog.built 59 [(0, .slice ao m c)] = some #[.slice ao m c] := by
    obtain ⟨i0, hi0, hz0, hs0, hb0⟩ := info_parts Try.info59
    have hpl : ∀ (fields : Array Field), Try.prog.underlying 59 = some (.struct fields) → fields.toList.mapM (fun f => (Try.prog.info? f.type).map fun i => (f.offset, i.size)) = some [(0, 1)] := by
      intro fields hf
      rw [Try.underlying59] at hf
      cases hf
      kernel_rfl
    simp only [Program.built, hi0, hz0, Try.underlying59, hpl _ Try.underlying59]
    rw [fill_one _ _ 0 (.slice ao m c) _ 0 [.slice ao m c] rfl (by simp) (by simp [Value.cells]), fill_nil]
    simp [put, Value.cells]
  have hr := run_build (P := Try.prog) w 59 #[(0, .slice ao m c)] _ (by simpa using hb)
  simp [execOp, ha, hr]
set_option maxHeartbeats 1000000 in
theorem mclone_atI (w : World) (p : Nat) (v : Value) (l : List EntI) (h : MapI w p v l) (hl : l.length ≤ 1000000) :
    Calls Try.prog 19 #[.pointer (some ⟨p, 0, none⟩)] w fun e w' => ∃ q v', e = .returned (.pointer (some ⟨q, 0, none⟩)) ∧ MapI w' q v' l ∧ Kept (fun _ => False) w w' ∧ (∀ k, footM q v' k → w.heap.size ≤ k) := by
  have HD := hide (clone_atI w v l h.own hl)
  have HS := hide h.srt
  have c0 : w.cell? ⟨p, 0, none⟩ = some v := h.blk.cell 0
  clear h
  go_enter Try.func19, Try.ntmps19
  go_wp2_with fail
  refine HD.out.mono ?_
  rintro e w1 ⟨v1, rfl, hO1, hk1, hv1⟩
  obtain ⟨ao, n3, cp3, rfl⟩ := ownsRow_slice hO1
  have HO1 := hide hO1
  have HV1 := hide hv1
  clear hO1 hv1 c0
  go_wp2_with (with_reducible refine stop_build 59 ?_)
  refine hide ?_
  refine wpList_run rfl (built1I rfl) ?_
  refine aw_box (eval_put_eq _ _ _ (by simp)) ?_
  intro w2 hb2 hk2 hz2
  have HZ := hide hz2
  have HB := hide hb2
  clear hz2 hb2
  simp only [put_lit, List.set_cons_succ, List.set_cons_zero]
  go_wp2
  go_ret
  refine ⟨_, _, rfl, ⟨HB.out, ownsRow_kept HO1.out hk2 (fun _ _ h => h), HS.out⟩, hk1.trans hk2 (fun _ _ h => h), ?_⟩
  rintro j (h | h)
  · have := hk1.size
    omega
  · exact HV1.out j h
set_option maxHeartbeats 1000000 in
theorem mclone_nilI (w : World) : Calls Try.prog 19 #[.pointer none] w fun e w' => e = .returned (.pointer none) ∧ w = w' := by
  go_enter Try.func19, Try.ntmps19
  go_wp2
  go_ret
  exact ⟨rfl, rfl⟩

end Go.Proofs.Ytkchlmpfegjkfaa
