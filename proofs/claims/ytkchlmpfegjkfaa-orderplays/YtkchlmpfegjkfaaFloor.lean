/-
  (*Map).Floor, and 'first', the statements' own first line: it answers true, and touches nothing that was there.
-/
import Derived.Test.YtkchlmpfegjkfaaIterI
import Derived.Deep.QuietTactic
import Derived.BigQuiet
namespace Go.Proofs.Ytkchlmpfegjkfaa
open Go.RowKit Go.Shelf
set_option linter.unusedSimpArgs false
set_option linter.unusedVariables false

theorem Kept.drewN {S : Nat → Prop} {a w : World} (h : Kept S a w) (n : Nat) : Kept S a (w.drewN n) := ⟨h.os, h.tape, h.output, h.size, h.block⟩

/-- The last entry whose key isn't above k. -/
def floorI (l : List EntI) (k : Int) : Option EntI := if hasK ltI l k then l[posK ltI l k]? else if posK ltI l k = 0 then none else l[posK ltI l k - 1]?
def floKI (o : Option EntI) : Int := (o.map (·.1)).getD 0
def floVI (o : Option EntI) : ByteArray := (o.map (·.2)).getD ⟨#[]⟩

set_option maxRecDepth 100000 in
set_option maxHeartbeats 1000000 in
theorem floor_ix (w : World) (p : Nat) (v : Value) (l : List EntI) (k : Int) (a i : Nat) (b : Bool) (h : MapI w p v l) (hi : i < l.length) (hab : a = if b then i else i + 1) (hl : l.length ≤ 1000000) (H1 : Hid (Calls Try.prog 27 #[.pointer (some ⟨p, 0, none⟩), .int .i64 k] w fun e w' => e = .returned (.tuple #[.int .i64 (a : Nat), .bool b]) ∧ Kept (fun _ => False) w w')) :
    Calls Try.prog 14 #[.pointer (some ⟨p, 0, none⟩), .int .i64 k] w fun e w' => e = .returned (.tuple #[.int .i64 l[i].1, .string l[i].2, .bool true]) ∧ Kept (fun _ => False) w w' := by
  obtain ⟨i0, hi0, hz0, hs0, hb0⟩ := info_parts Try.info62
  have Hi0 := hide hi0
  have Hz0 := hide hz0
  rcases ownsRow_blk h.own with ⟨_, h0, _⟩ | ⟨g, cap, C, rfl, hb, hnc, hcm, hC⟩
  · omega
  have ⟨h2, h3⟩ := own_twoI (v := .slice none 0 0) (cap := 0) hb i hi
  have HB := hide hb
  have HM := hide h.blk
  have H2 := hide h2
  have H3 := hide h3
  unfold maxLen at hcm
  obtain ⟨x, hx⟩ : ∃ x, x = l[i] := ⟨_, rfl⟩
  rw [← hx] at H2 ⊢
  clear hi0 hz0 hs0 hb0 h hb hC h2 h3 hx
  cases b with
  | true =>
    obtain rfl : a = i := by simpa using hab
    clear hab
    go_enter Try.func14, Try.ntmps14
    go_wp2_with fail
    refine H1.out.mono ?_
    rintro e w2 ⟨rfl, hk⟩
    have c0 : w2.cell? ⟨p, 0, none⟩ = some (.slice (some ⟨g, 0, none⟩) l.length cap) := (hk.blk HM.out (fun h => h)).cell 0
    have HB2 := hide (hk.blk HB.out (fun h => h))
    go_wp2_with (first
      | ((with_reducible refine aw_load Try.agg62 rfl HB2.out H3.out H2.out ?_))
      | ((with_reducible refine aw_alloc Hi0.out Hz0.out ?_); intro w3 hw3 hk3 hz3; have Hz3 := hide hz3; clear hz3 c0)
      | ((with_reducible refine aw_store (M := [.int .i64 x.1, .string x.2]) Try.agg62 rfl rfl rfl (by simp [Value.oneCell']) hw3 (by simp [Value.cells]) ?_); intro w4 hw4 hk4 hz4; have Hz4 := hide hz4; clear hz4))
    rw [put_whole _ _ (by simp [Value.cells])] at hw4
    have c1 : w4.cell? ⟨w2.heap.size, 0, none⟩ = some (.int .i64 x.1) := hw4.cell 0
    have c2 : w4.cell? ⟨w2.heap.size, 1, none⟩ = some (.string x.2) := hw4.cell 1
    have hkk : Kept (fun _ => False) w w4 := (hk.trans hk3 (fun _ _ h => h)).trans hk4 (fun j hj h => by have := hk.size; omega)
    clear hw4 hw3 hk3 hk4
    go_quiet (fail)
    go_wp2
    go_ret3
    exact ⟨rfl, hkk.drewN _⟩
  | false =>
    obtain rfl : a = i + 1 := by simpa using hab
    clear hab
    have hsb : ((i + 1 : Nat) : Int) - 1 = (i : Int) := by omega
    go_enter Try.func14, Try.ntmps14
    go_wp2_with fail
    refine H1.out.mono ?_
    rintro e w2 ⟨rfl, hk⟩
    have c0 : w2.cell? ⟨p, 0, none⟩ = some (.slice (some ⟨g, 0, none⟩) l.length cap) := (hk.blk HM.out (fun h => h)).cell 0
    have HB2 := hide (hk.blk HB.out (fun h => h))
    go_wp2_with (first
      | ((with_reducible refine aw_load Try.agg62 rfl HB2.out H3.out H2.out ?_))
      | ((with_reducible refine aw_alloc Hi0.out Hz0.out ?_); intro w3 hw3 hk3 hz3; have Hz3 := hide hz3; clear hz3 c0)
      | ((with_reducible refine aw_store (M := [.int .i64 x.1, .string x.2]) Try.agg62 rfl rfl rfl (by simp [Value.oneCell']) hw3 (by simp [Value.cells]) ?_); intro w4 hw4 hk4 hz4; have Hz4 := hide hz4; clear hz4))
    rw [put_whole _ _ (by simp [Value.cells])] at hw4
    have c1 : w4.cell? ⟨w2.heap.size, 0, none⟩ = some (.int .i64 x.1) := hw4.cell 0
    have c2 : w4.cell? ⟨w2.heap.size, 1, none⟩ = some (.string x.2) := hw4.cell 1
    have hkk : Kept (fun _ => False) w w4 := (hk.trans hk3 (fun _ _ h => h)).trans hk4 (fun j hj h => by have := hk.size; omega)
    clear hw4 hw3 hk3 hk4
    go_quiet (fail)
    go_wp2
    go_ret3
    exact ⟨rfl, hkk.drewN _⟩

set_option maxRecDepth 100000 in
set_option maxHeartbeats 1000000 in
theorem floor_no (w : World) (po : Option Addr) (k : Int) (H1 : Hid (Calls Try.prog 27 #[.pointer po, .int .i64 k] w fun e w' => e = .returned (.tuple #[.int .i64 (0 : Nat), .bool false]) ∧ Kept (fun _ => False) w w')) :
    Calls Try.prog 14 #[.pointer po, .int .i64 k] w fun e w' => e = .returned (.tuple #[.int .i64 0, .string ⟨#[]⟩, .bool false]) ∧ Kept (fun _ => False) w w' := by
  obtain ⟨i0, hi0, hz0, hs0, hb0⟩ := info_parts Try.info62
  have Hi0 := hide hi0
  have Hz0 := hide hz0
  clear hi0 hz0 hs0 hb0
  go_enter Try.func14, Try.ntmps14
  go_wp2_with fail
  refine H1.out.mono ?_
  rintro e w2 ⟨rfl, hk⟩
  go_wp2_with (((with_reducible refine aw_alloc Hi0.out Hz0.out ?_); intro w3 hw3 hk3 hz3; have Hz3 := hide hz3; clear hz3))
  have c1 : w3.cell? ⟨w2.heap.size, 0, none⟩ = some (.int .i64 0) := hw3.cell 0
  have c2 : w3.cell? ⟨w2.heap.size, 1, none⟩ = some (.string ⟨#[]⟩) := hw3.cell 1
  have hkk : Kept (fun _ => False) w w3 := hk.trans hk3 (fun _ _ h => h)
  clear hw3 hk3
  go_quiet (fail)
  go_wp2
  go_ret3
  exact ⟨rfl, hkk.drewN _⟩

theorem floor_at (w : World) (p : Nat) (v : Value) (l : List EntI) (k : Int) (h : MapI w p v l) (hl : l.length ≤ 1000000) :
    Calls Try.prog 14 #[.pointer (some ⟨p, 0, none⟩), .int .i64 k] w fun e w' => e = .returned (.tuple #[.int .i64 (floKI (floorI l k)), .string (floVI (floorI l k)), .bool (floorI l k).isSome]) ∧ Kept (fun _ => False) w w' := by
  have H1 := hide (find_atI w p v l k h hl)
  have hle := posK_le ltI l k
  cases hh : hasK ltI l k with
  | true =>
    have hlt := hasK_lt hh
    have e : floorI l k = some l[posK ltI l k] := by simp [floorI, hh, List.getElem?_eq_getElem hlt]
    rw [hh] at H1
    rw [e]
    exact floor_ix w p v l k _ _ true h hlt rfl hl H1
  | false =>
    by_cases h0 : posK ltI l k = 0
    · have e : floorI l k = none := by simp [floorI, hh, h0]
      rw [hh, h0] at H1
      rw [e]
      exact floor_no w _ k H1
    · have hlt : posK ltI l k - 1 < l.length := by omega
      have e : floorI l k = some l[posK ltI l k - 1] := by simp [floorI, hh, h0, List.getElem?_eq_getElem hlt]
      rw [hh] at H1
      rw [e]
      exact floor_ix w p v l k _ _ false h hlt (by simp; omega) hl H1
theorem floor_nil (w : World) (k : Int) : Calls Try.prog 14 #[.pointer none, .int .i64 k] w fun e w' => e = .returned (.tuple #[.int .i64 0, .string ⟨#[]⟩, .bool false]) ∧ Kept (fun _ => False) w w' :=
  floor_no w none k (hide (find_nilI w k))

/-! ### first -/
def sFive : ByteArray := ⟨#[102, 105, 118, 101]⟩
def sTwo : ByteArray := ⟨#[116, 119, 111]⟩
def sV : ByteArray := ⟨#[86]⟩
theorem f_put1 : putK ltI [] 5 sFive = [(5, sFive)] := rfl
theorem f_has1 : hasK ltI ([] : List EntI) 5 = false := rfl
theorem f_put2 : putK ltI [(5, sFive)] 2 sTwo = [(2, sTwo), (5, sFive)] := rfl
theorem f_has2 : hasK ltI [(5, sFive)] 2 = false := rfl
theorem f_put3 : putK ltI [(2, sTwo), (5, sFive)] 5 sV = [(2, sTwo), (5, sV)] := rfl
theorem f_has3 : hasK ltI [(2, sTwo), (5, sFive)] 5 = true := rfl
theorem f_floor : floorI [(2, sTwo), (5, sV)] 4 = some (2, sTwo) := rfl
theorem f_has4 : hasK ltI [(2, sTwo), (5, sV)] 2 = true := rfl
theorem f_del4 : delK ltI [(2, sTwo), (5, sV)] 2 = [(5, sV)] := rfl
theorem f_has5 : hasK ltI [(5, sV)] 2 = false := rfl

theorem step_trans {w w1 w2 : World} {p : Nat} {v1 : Value} {F : Nat → Prop} (hk : Kept F w w1) (hk2 : Kept (footM p v1) w1 w2) (hF : ∀ k, footM p v1 k → F k ∨ w.heap.size ≤ k) : Kept F w w2 :=
  hk.trans hk2 (fun i hi h => by
    rcases hF i h with h | h
    · exact h
    · omega)

set_option maxRecDepth 100000 in
set_option maxHeartbeats 4000000 in
theorem first_any (w : World) : Calls Try.prog 5 #[] w fun e w' => e = .returned (.bool true) ∧ Kept (fun _ => False) w w' := by
  go_enter Try.func5, Try.ntmps5
  go_wp2_with fail
  refine (new_atI w).mono ?_
  rintro e w1 ⟨rfl, hM1, hk1⟩
  obtain ⟨p, hp⟩ : ∃ p, p = w.heap.size := ⟨_, rfl⟩
  rw [← hp] at hM1 ⊢
  have hF1 : ∀ k, footM p (.slice none 0 0) k → False ∨ w.heap.size ≤ k := by
    rintro k (h | h)
    · exact .inr (by omega)
    · simp [Value.ownBlock] at h
  have Hp := hide hp
  have HM1 := hide hM1
  clear hp hM1
  go_wp2_with fail
  have hP := put_atI w1 p _ [] 5 sFive HM1.out (by simp)
  rw [f_put1, f_has1] at hP
  refine hP.mono ?_
  rintro e w2 ⟨rfl, v2, hM2, hk2, hF2⟩
  have hk02 := step_trans hk1 hk2 hF1
  have hF02 : ∀ k, footM p v2 k → False ∨ w.heap.size ≤ k := fun k hk => (hF2 k hk).elim (hF1 k) (fun h => .inr (by have := hk1.size; omega))
  have HM2 := hide hM2
  clear hP hM2 hk2 hF2 hk1 hF1
  go_wp2_with fail
  have hP := put_atI w2 p _ _ 2 sTwo HM2.out (by simp)
  rw [f_put2, f_has2] at hP
  refine hP.mono ?_
  rintro e w3 ⟨rfl, v3, hM3, hk3, hF3⟩
  have hk03 := step_trans hk02 hk3 hF02
  have hF03 : ∀ k, footM p v3 k → False ∨ w.heap.size ≤ k := fun k hk => (hF3 k hk).elim (hF02 k) (fun h => .inr (by have := hk02.size; omega))
  have HM3 := hide hM3
  clear hP hM3 hk3 hF3 hk02 hF02
  go_wp2_with fail
  have hP := put_atI w3 p _ _ 5 sV HM3.out (by simp)
  rw [f_put3, f_has3] at hP
  refine hP.mono ?_
  rintro e w4 ⟨rfl, v4, hM4, hk4, hF4⟩
  have hk04 := step_trans hk03 hk4 hF03
  have hF04 : ∀ k, footM p v4 k → False ∨ w.heap.size ≤ k := fun k hk => (hF4 k hk).elim (hF03 k) (fun h => .inr (by have := hk03.size; omega))
  have HM4 := hide hM4
  clear hP hM4 hk4 hF4 hk03 hF03
  go_wp2_with fail
  have hP := floor_at w4 p _ _ 4 HM4.out (by simp)
  rw [f_floor] at hP
  refine hP.mono ?_
  rintro e w5 ⟨rfl, hk5⟩
  have HM5 := hide (HM4.out.kept hk5 (fun h => h) (fun _ _ h => h))
  have hk05 := hk04.trans hk5 (fun _ _ h => h)
  clear hP hk5 hk04
  have e1 : floKI (some (2, sTwo)) = 2 := rfl
  have e2 : floVI (some (2, sTwo)) = ⟨#[116, 119, 111]⟩ := rfl
  rw [e1, e2]
  clear e1 e2
  simp only [Option.isSome_some]
  go_wp2_with fail
  refine (keys_atI w5 p _ _ HM5.out (by simp)).mono ?_
  rintro e w6 ⟨kv, rfl, ho, hk6⟩
  have HM6 := hide (HM5.out.kept hk6 (fun h => h) (fun _ _ h => h))
  have hk06 := hk05.trans hk6 (fun _ _ h => h)
  rcases ownsRow_blk ho with ⟨_, h0, _⟩ | ⟨g, cap, C, rfl, hb, hnc, hcm, hC⟩
  · simp at h0
  have c0 : w6.cell? ⟨g, 0, none⟩ = some (.int .i64 2) := hb.cell 0
  simp only [List.length_cons, List.length_nil, Nat.zero_add, Nat.reduceAdd]
  simp only [List.length_cons, List.length_nil, Nat.zero_add, Nat.reduceAdd] at hnc
  unfold maxLen at hcm
  clear hb hC ho hk6 hk05
  go_wp2_with fail
  refine (len_atI w6 p _ _ HM6.out).mono ?_
  rintro e w7 ⟨rfl, rfl⟩
  simp only [List.length_cons, List.length_nil, Nat.zero_add, Nat.reduceAdd]
  go_wp2_with fail
  have hP := delete_atI w6 p _ _ 2 HM6.out (by simp)
  rw [f_has4, f_del4] at hP
  refine hP.mono ?_
  rintro e w7 ⟨rfl, v7, hM7, hk7, hF7⟩
  have hk07 := step_trans hk06 hk7 (fun k hk => hF04 k hk)
  have hF07 : ∀ k, footM p v7 k → False ∨ w.heap.size ≤ k := fun k hk => (hF7 k hk).elim (hF04 k) (fun h => .inr (by have := hk06.size; omega))
  have HM7 := hide hM7
  clear hP hM7 hk7 hF7 hk06 hF04 c0
  go_wp2_with fail
  have hP := delete_atI w7 p _ _ 2 HM7.out (by simp)
  rw [f_has5] at hP
  refine hP.mono ?_
  rintro e w8 ⟨rfl, v8, hM8, hk8, hF8⟩
  have hk08 := step_trans hk07 hk8 hF07
  clear hP hM8 hk8 hF8 hk07
  go_wp2
  go_ret
  exact ⟨rfl, hk08⟩

end Go.Proofs.Ytkchlmpfegjkfaa
