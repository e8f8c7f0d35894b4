/-
  What the statements ask ahead of everything else.
-/
import Derived.Test.YtgeffdoepcbhiaaFirstI
import Derived.Test.YtgeffdoepcbhiaaListI
import Derived.Test.YtgeffdoepcbhiaaFindS
import Derived.Test.YtgeffdoepcbhiaaFoldI
namespace Go.Proofs.Ytgeffdoepcbhiaa
open Go.RowKit Go.Shelf
set_option linter.unusedSimpArgs false
set_option linter.unusedVariables false
attribute [local go_sem] Oper.semAt_some

abbrev di (x : Int) : Value := .int .i64 x
theorem di_one (x : Int) : (di x).cells = #[di x] ∧ (di x).oneCell' = true := ⟨rfl, rfl⟩
theorem encD_one {α : Type} {D : α → Value} (hD : ∀ x, (D x).cells = #[D x] ∧ (D x).oneCell' = true) : ∀ x v G W, EncD D x v G W → v.cells = #[v] ∧ v.oneCell' = true := by
  rintro x v G W ⟨rfl, _⟩
  exact hD x
/-- The two texts of 'first'. -/
def dt : Bool → Value
  | false => .string ⟨#[97]⟩
  | true => .string ⟨#[98, 99]⟩
theorem dt_one (x : Bool) : (dt x).cells = #[dt x] ∧ (dt x).oneCell' = true := by cases x <;> exact ⟨rfl, rfl⟩

set_option maxHeartbeats 400000 in
theorem f36 (x : Bool) (w : World) : Calls Try.prog 36 #[dt x] w fun e w' => e = .returned (.bool x) ∧ w = w' := by
  cases x
  · show Calls Try.prog 36 #[.string ⟨#[97]⟩] w _
    go_enter Try.func36, Try.ntmps36
    go_wp2
    go_ret
    exact ⟨rfl, rfl⟩
  · show Calls Try.prog 36 #[.string ⟨#[98, 99]⟩] w _
    go_enter Try.func36, Try.ntmps36
    go_wp2
    go_ret
    exact ⟨rfl, rfl⟩
theorem f36_ok (W : World) : FnOk Try.prog (.func (.func 36) #[] #[]) (EncD dt) Value.bool (fun x : Bool => x) (fun _ => False) W :=
  FnOk.of (enters_of Try.func36 (by kernel_rfl) rfl) (by
    rintro W' S hk hS x v G ⟨rfl, _⟩
    refine (f36 x W').mono ?_
    rintro e w' ⟨rfl, rfl⟩
    exact ⟨rfl, Kept.refl _ _⟩)
set_option maxHeartbeats 400000 in
theorem f37 (u t : Int) (hu : 0 ≤ u ∧ u ≤ 100) (ht : 0 ≤ t ∧ t ≤ 100) (w : World) : Calls Try.prog 37 #[.int .i64 u, .int .i64 t] w fun e w' => e = .returned (.int .i64 (u + t)) ∧ w = w' := by
  go_enter Try.func37, Try.ntmps37
  go_wp2
  go_ret
  exact ⟨rfl, rfl⟩
def K10 (pre : List Int) (u : Value) (F : NSet) (W : World) : Prop := u = .int .i64 (10 + pre.sum) ∧ F = fun _ => False
theorem K10.stab {B : Nat} {C : NSet} (pre : List Int) (u : Value) : Stab B C (K10 pre u) :=
  ⟨fun F W h k hk => by rw [h.2] at hk; exact hk.elim, fun F W W' S h _ _ _ => h⟩
theorem f37_ok (B : Nat) (F0 : NSet) : FoldFnI (EncD di) [1, 2, 3] B F0 K10 (.func (.func 37) #[] #[]) := by
  rintro pre x post u Fu G v W hxs ⟨rfl, rfl⟩ hB hF ⟨rfl, hG0⟩ hG
  refine .inl ⟨_, _, rfl, enters_of Try.func37 (by kernel_rfl) rfl, ?_⟩
  have hb : (0 ≤ pre.sum ∧ pre.sum ≤ 6) ∧ 0 ≤ x ∧ x ≤ 3 := by
    match pre, hxs with
    | [], h => simp at h; obtain ⟨rfl, _⟩ := h; simp
    | [a], h => simp at h; obtain ⟨rfl, rfl, _⟩ := h; simp
    | [a, b], h => simp at h; obtain ⟨rfl, rfl, rfl, _⟩ := h; simp
    | a :: b :: c :: r, h => simp at h
  show Calls Try.prog 37 #[.int .i64 (10 + pre.sum), .int .i64 x] W _
  refine (f37 _ _ (by omega) (by omega) W).mono ?_
  rintro e w' ⟨rfl, rfl⟩
  exact ⟨_, _, rfl, ⟨by simp [List.sum_append, Int.add_assoc], rfl⟩, Kept.refl _ _, fun k h => h.elim⟩

set_option maxRecDepth 100000 in
set_option maxHeartbeats 4000000 in
theorem first_law (w : World) : Calls Try.prog 6 #[] w fun e w' => e = .returned (.bool true) ∧ Kept (fun _ => False) w w' := by
  obtain ⟨i3, hi3, hz3, hs3, hb3⟩ := info_parts Try.info3
  obtain ⟨i9, hi9, hz9, hs9, hb9⟩ := info_parts Try.info9
  have Hi3 := hide hi3
  have Hz3 := hide hz3
  have Hs3 := hide hs3
  have Hi9 := hide hi9
  have Hz9 := hide hz9
  have Hs9 := hide hs9
  clear hi3 hz3 hs3 hb3 hi9 hz9 hs9 hb9
  go_enter Try.func6, Try.ntmps6
  go_wp2_with (with_reducible refine stop_bs 22 ?_)
  refine hide ?_
  refine wpList_run rfl (run_bs1 Try.underlying22 Hi3.out Hz3.out Hs3.out [di 5, di 6, di 7] rfl (by simp) (by simp [Value.cells]) rfl) ?_
  have hbA := Blk.new w [di 5, di 6, di 7] 3
  have hkA : Kept (fun _ => False) w (w.alloc (.cells [di 5, di 6, di 7].toArray 3)) := Kept.alloc _ _ _
  generalize w.alloc (.cells [di 5, di 6, di 7].toArray 3) = w1 at hbA hkA
  have hsA : SrcV w1 (.slice (some ⟨w.heap.size, 0, none⟩) 3 3) [di 5, di 6, di 7] := ⟨_, 3, rfl, by simp, fun _ => ⟨_, 0, rfl, by have := hbA.cells 0 3; simpa using this⟩, fun h => by cases h⟩
  have HA := hide hsA
  have Hk1 := hide hkA
  clear hbA hkA hsA
  simp only [put_lit, List.set_cons_succ, List.set_cons_zero]
  go_wp2_with fail
  refine (of_atI w1 _ _ HA.out (by simp [Value.oneCell']) (by simp)).mono ?_
  rintro e w2 ⟨b, v', rfl, h1, h2, h3, h4, h5⟩
  have hseq := of_okI (D := di) (xs := [5, 6, 7]) h1 h2 (fun x => (di_one x).1) (by simp)
  have HSeq := hide hseq
  have Hk2 := hide (Hk1.out.trans h3 (fun _ _ h => h))
  clear hseq h1 h2 h3 h4 h5 Hk1
  go_wp2_with fail
  refine (first_atI w2 _ 2 (by omega) HSeq.out.cells).mono ?_
  rintro e w3 ⟨bn, bs, rfl, h1, h2, h3, h4, h5⟩
  have HSeq3 := hide (first_okI (by omega) (by omega) (HSeq.out.kept h3 (fun _ h => h.elim)) h1 h2 ⟨fun h => h, fun h => h⟩)
  have Hk3 := hide (Hk2.out.trans h3 (fun _ _ h => h))
  clear h1 h2 h3 h4 h5 Hk2 HSeq
  go_wp2_with fail
  refine (list_atI HSeq3.out (encD_one di_one) (by simp)).mono ?_
  rintro e w4 ⟨kv, vs, G, rfl, h1, h2, h3, h4, h5, h6⟩
  have hvs := h2.encD
  subst hvs
  have hs4 := ownsRow_src h1
  have Hs4 : Hid (SrcV w4 kv [di 5, di 6]) := hide hs4
  have Hk4 := hide (Hk3.out.trans h3 (fun _ _ h => h))
  obtain ⟨ao, cc, rfl⟩ := ownsRow_slice h1
  clear h1 h2 h3 h4 h5 h6 hs4 HSeq3 Hk3
  go_wp2_with (with_reducible refine stop_bs 72 ?_)
  refine hide ?_
  refine wpList_run rfl (run_bs1 Try.underlying72 Hi9.out Hz9.out Hs9.out [dt false, dt true] rfl (by simp) (by simp [Value.cells, dt]) rfl) ?_
  have hbA := Blk.new w4 [dt false, dt true] 9
  have hkA : Kept (fun _ => False) w4 (w4.alloc (.cells [dt false, dt true].toArray 9)) := Kept.alloc _ _ _
  generalize w4.alloc (.cells [dt false, dt true].toArray 9) = w5 at hbA hkA
  have hsA : SrcV w5 (.slice (some ⟨w4.heap.size, 0, none⟩) 2 2) [dt false, dt true] := ⟨_, 2, rfl, by simp, fun _ => ⟨_, 0, rfl, by have := hbA.cells 0 2; simpa using this⟩, fun h => by cases h⟩
  have HA5 := hide hsA
  have Hs5 := hide (Hs4.out.kept hkA (fun _ _ h => h))
  have Hk5 := hide (Hk4.out.trans hkA (fun _ _ h => h))
  clear hbA hkA hsA Hs4 Hk4
  simp only [put_lit, List.set_cons_succ, List.set_cons_zero]
  go_wp2_with fail
  refine (of_atS w5 _ _ HA5.out (by simp [dt, Value.oneCell']) (by simp)).mono ?_
  rintro e w6 ⟨b6, v6, rfl, h1, h2, h3, h4, h5⟩
  have HSeq6 := hide (of_okS (D := dt) (xs := [false, true]) h1 h2 (fun x => (dt_one x).1) (by simp))
  have Hs6 := hide (Hs5.out.kept h3 (fun _ _ h => h))
  have Hk6 := hide (Hk5.out.trans h3 (fun _ _ h => h))
  clear h1 h2 h3 h4 h5 Hs5 Hk5 HA5
  go_wp2_with fail
  refine (find_atS dt_one HSeq6.out ⟨_, _, rfl⟩ (f36_ok w6) (fun _ h => h.elim)).mono ?_
  rintro e w7 ⟨fv, fb, rfl, h3, hfound⟩
  obtain ⟨rfl, rfl⟩ : fv = .string ⟨#[98, 99]⟩ ∧ fb = true := by
    rcases hfound with ⟨_, _, h, _⟩ | ⟨rfl, q, x, post, _, _, h, rfl, _⟩
    · simp at h
    · have h : x = true := h
      subst h
      exact ⟨rfl, rfl⟩
  have Hs7 := hide (Hs6.out.kept h3 (fun _ _ h => h))
  have Hk7 := hide (Hk6.out.trans h3 (fun _ _ h => h))
  clear h3 hfound Hs6 Hk6 HSeq6
  go_wp2_with (with_reducible refine stop_bs 22 ?_)
  refine hide ?_
  refine wpList_run rfl (run_bs1 Try.underlying22 Hi3.out Hz3.out Hs3.out [di 1, di 2, di 3] rfl (by simp) (by simp [Value.cells]) rfl) ?_
  have hbA := Blk.new w7 [di 1, di 2, di 3] 3
  have hkA : Kept (fun _ => False) w7 (w7.alloc (.cells [di 1, di 2, di 3].toArray 3)) := Kept.alloc _ _ _
  generalize w7.alloc (.cells [di 1, di 2, di 3].toArray 3) = w8 at hbA hkA
  have hsA : SrcV w8 (.slice (some ⟨w7.heap.size, 0, none⟩) 3 3) [di 1, di 2, di 3] := ⟨_, 3, rfl, by simp, fun _ => ⟨_, 0, rfl, by have := hbA.cells 0 3; simpa using this⟩, fun h => by cases h⟩
  have HA8 := hide hsA
  have Hs8 := hide (Hs7.out.kept hkA (fun _ _ h => h))
  have Hk8 := hide (Hk7.out.trans hkA (fun _ _ h => h))
  clear hbA hkA hsA Hs7 Hk7
  simp only [put_lit, List.set_cons_succ, List.set_cons_zero]
  go_wp2_with fail
  refine (of_atI w8 _ _ HA8.out (by simp [Value.oneCell']) (by simp)).mono ?_
  rintro e w9 ⟨b9, v9, rfl, h1, h2, h3, h4, h5⟩
  have HSeq9 := hide (of_okI (D := di) (xs := [1, 2, 3]) h1 h2 (fun x => (di_one x).1) (by simp))
  have Hs9' := hide (Hs8.out.kept h3 (fun _ _ h => h))
  have Hk9 := hide (Hk8.out.trans h3 (fun _ _ h => h))
  clear h1 h2 h3 h4 h5 Hs8 Hk8 HA8
  go_wp2_with fail
  refine (fold_atI HSeq9.out (K := K10) (u0 := .int .i64 10) (F0 := fun _ => False) ⟨_, _, rfl⟩ K10.stab (by rintro _ _ _ _ ⟨rfl, _⟩; exact ⟨rfl, rfl⟩) (f37_ok _ _) (fun _ h => h.elim) ⟨rfl, rfl⟩).mono ?_
  rintro e w10 ⟨u, Fu, rfl, ⟨hu, _⟩, h3, _, _⟩
  obtain rfl : u = .int .i64 16 := by rw [hu]; rfl
  have hs10 := Hs9'.out.kept h3 (fun _ _ h => h.elim (fun h => h) (fun h => h))
  have Hk10 := hide (Hk9.out.trans h3 (fun _ _ h => h.elim (fun h => h) (fun h => h)))
  obtain ⟨ao', cap', he, _, hsrc, _⟩ := hs10
  obtain ⟨g, off, rfl, hcs⟩ := hsrc (by simp)
  have he' : ao = some ⟨g, off, none⟩ ∧ cc = cap' := by
    simp at he
    exact he
  obtain ⟨rfl, rfl⟩ := he'
  have c1 : w10.cell? ⟨g, off + 1, none⟩ = some (.int .i64 6) := hcs 1 _ rfl
  clear hcs hsrc he hu h3 Hs9' Hk9 HSeq9
  go_wp2
  go_ret
  exact ⟨rfl, Hk10.out⟩
end Go.Proofs.Ytgeffdoepcbhiaa
