/-
  What the statements ask ahead of everything else, walked.
-/
import Derived.Test.YtclfklcboigifaaTxLaw
namespace Go.Proofs.Ytclfklcboigifaa
open Go.RowKit Go.Shelf
set_option linter.unusedSimpArgs false
set_option linter.unusedVariables false
set_option maxRecDepth 100000

section
variable {P : Program} {ops : Array Oper} {Q : Exit → Act → World → Prop} {a : Act} {w w' : World} {rest : List Oper} {o : Oper} {v : Value} {dst : Option Tmp} {ty : TypeId} {pos : String} {aft : Array Edge} {gd : Option (Nat × Bool)} {x y : Operand}
theorem wpList_runG (hg : Region.wanted o (yielded ops a.tmps) = true) (hr : (execOp a.eval o).run P w = .ok (.value v) w') (h : wpList P ops Q rest (a.put o.dst v) w') : wpList P ops Q (o :: rest) a w :=
  wpList_step fun K hK => by rw [if_pos hg]; unfold Oper.wp; rw [hr]; exact hK _ _ h
theorem stop_convertG (t u : TypeId) (h : Hid (wpList P ops Q (⟨dst, .convert t u x, ty, pos, aft, gd⟩ :: rest) a w)) : wpList P ops Q (⟨dst, .convert t u x, ty, pos, aft, gd⟩ :: rest) a w := h.out
end
/-- What a book's transactions come to. -/
def wF13 : List Nat := (List.replicate 64 0).set 1 3
theorem wF13_len : wF13.length = 64 := by simp [wF13]
theorem wF13_lt : ∀ x ∈ wF13, x < 256 := by decide
theorem src_blk13 {w : World} {g : Nat} (h : Blk w g (BV wF13) 5) : Src w (.slice (some ⟨g, 0, none⟩) 64 64) wF13 := by
  have := Blk.src (cap := 64) h (B := wF13) (by rw [List.take_of_length_le (by simp [BV, wF13])]) wF13_lt (by rw [wF13_len]; exact Nat.le_refl _)
  rwa [wF13_len] at this
theorem one_of {ws : List Wv} {k : Int} {B : List Nat} (h : ws.map Wv.wr = [⟨k, B⟩]) : ∃ s, ws = [⟨k, s, B⟩] := by
  match ws, h with
  | [⟨a, s, b⟩], h =>
    simp [Wv.wr] at h
    obtain ⟨rfl, rfl⟩ := h
    exact ⟨s, rfl⟩
theorem readIs_some {w w' : World} {x : Wr} {e : Ending} (h : ReadIs w w' (some x) e) : ∃ s : Sl, e = .returned (.tuple #[.slice s.a s.n s.c, .bool true, .int .i64 0]) ∧ Src w' s.v x.B ∧ Kept (fun _ => False) w w' := h
theorem readIs_none {w w' : World} {e : Ending} (h : ReadIs w w' none e) : ∃ s : Sl, e = .returned (.tuple #[.slice s.a s.n s.c, .bool false, .int .i64 0]) ∧ Src w' s.v [] ∧ Kept (fun _ => False) w w' := h
def LF0 : Txs := [(1, [])]
def LF1 : Txs := [(1, [⟨2, wF13⟩])]
theorem okF0 : okTx 0 LF0 := by intro x hx; simp [LF0] at hx; subst hx; exact ⟨Nat.le_refl _, by simp, trivial⟩
theorem okF1 : okTx 1 LF1 := by intro x hx; simp [LF1] at hx; subst hx; exact ⟨by simp, by simp [wF13], by simp [Rising]⟩
theorem LF1_eq : txW LF0 1 2 wF13 = LF1 := rfl
theorem LF0_eq : putK ltI ([] : Txs) (0 + 1) [] = LF0 := rfl
theorem weF : txWE 4 LF0 1 2 wF13.length = 0 := by rw [wF13_len]; decide
theorem erF1 : txErr 4 LF1 1 2 = 0 ∧ txErr 4 LF1 1 1 = 0 ∧ hasK ltI LF1 1 = true ∧ LF1.length = 1 ∧ LF1.map (·.1) = [1] := ⟨by rfl, by rfl, by rfl, rfl, rfl⟩
theorem vaF1 : valK ltI [] LF1 1 = [⟨2, wF13⟩] ∧ findW [⟨2, wF13⟩] 2 = some ⟨2, wF13⟩ ∧ findW [⟨2, wF13⟩] 1 = none ∧ delK ltI LF1 1 = [] := ⟨by rfl, by rfl, by rfl, by rfl⟩
theorem erF2 : hasK ltI ([] : Txs) 1 = false := rfl
set_option maxHeartbeats 4000000 in
theorem first_at (w : World) : Calls Try.prog 6 #[] w fun e w' => e = .returned (.bool true) ∧ Kept (fun _ => False) w w' := by
  obtain ⟨i5, hi5, hz5, hs5, hb5⟩ := info_parts Try.info5
  have Hi5 := hide hi5
  have Hz5 := hide hz5
  have Hs5 := hide hs5
  have Hb5 := hide hb5
  clear hi5 hz5 hs5 hb5
  go_enter Try.func6, Try.ntmps6
  go_wp2_with fail
  refine (txnew_ok w 4 (by decide) (by decide)).mono ?_
  rintro e w1 ⟨b, X1, rfl, hb1, hk1, hn1⟩
  have T1 : Hid (Tw w w1 b 4 0 [] X1) := hide ⟨hb1, hk1, hn1⟩
  clear hb1 hk1 hn1
  go_wp2_with fail
  refine (begin_ok w1 b 4 0 [] X1 T1.out.at_ (by decide) (by decide)).mono ?_
  rintro e w2 ⟨rfl, hs2⟩
  obtain ⟨X2, ht2, _, _⟩ := T1.out.step hs2
  rw [LF0_eq] at ht2
  have T2 := hide ht2
  clear hs2 ht2 T1
  simp only [Int.zero_add]
  simp only [Int.zero_add] at T2
  go_wp2_with (first
    | ((with_reducible refine aw_make (n := 64) 1 (by decide) Try.underlying40 Hi5.out Hz5.out rfl Hs5.out rfl rfl (by rw [Hb5.out]; decide) (by decide) ?_); intro w3 hw3 hk3 hz3; have HW3 := hide hw3; have HK3 := hide hk3; clear hw3 hk3 hz3)
    | (with_reducible refine stop_store 5 ?_)
    | fail)
  refine hide ?_
  refine aw_store1 (v := .int .u8 3) Hi5.out Hs5.out rfl rfl rfl rfl HW3.out (by simp) ?_
  intro w4 hw4 hk4 hz4
  have hk24 : Kept (fun _ => False) w2 w4 := HK3.out.trans hk4 (S := fun _ => False) (fun i hi h => by omega)
  have T4 := hide (T2.out.same hk24)
  obtain ⟨g, hg⟩ : ∃ g, g = w2.heap.size := ⟨_, rfl⟩
  have HB4 : Hid (Blk w4 g (BV wF13) 5) := hide (by rw [hg]; exact hw4)
  have HG : Hid (¬ X2 g) := hide (fun h => by have := T2.out.lt g h; omega)
  rw [← hg]
  clear hw4 hk4 hz4 hg hk24 HW3 HK3 T2
  try simp only [put_lit, put_none, List.set_cons_succ, List.set_cons_zero]
  go_wp2_with fail
  refine (write_at w4 b 4 1 LF0 X2 T4.out.at_ (by decide) 0 (by decide) okF0 1 2 ⟨some ⟨g, 0, none⟩, 64, 64⟩ wF13 (src_blk13 HB4.out)).mono ?_
  rintro e w5 ⟨he, hs5⟩
  rw [weF] at he hs5
  rw [if_pos rfl, LF1_eq] at hs5
  subst he
  obtain ⟨X5, ht5, hk5, _⟩ := T4.out.step hs5
  have T5 := hide ht5
  have HB5 := hide (hk5.blk HB4.out HG.out)
  clear hs5 ht5 hk5 T4 HB4 HG
  go_wp2_with fail
  refine (read_ok w5 b 4 1 LF1 X5 T5.out.at_ (by decide) 1 (by decide) okF1 1 2 erF1.1).mono ?_
  intro e w6 hr
  rw [vaF1.1, vaF1.2.1] at hr
  obtain ⟨⟨xa, xn, xc⟩, rfl, hx, hk6⟩ := readIs_some hr
  have T6 := hide (T5.out.same hk6)
  have HB6 := hide (hk6.blk HB5.out (fun h => h))
  have HX6 := hide hx
  clear hr hx hk6 T5 HB5
  go_wp2_with fail
  refine (read_ok w6 b 4 1 LF1 X5 T6.out.at_ (by decide) 1 (by decide) okF1 1 1 erF1.2.1).mono ?_
  intro e w7 hr
  rw [vaF1.1, vaF1.2.2.1] at hr
  obtain ⟨⟨ya, yn, yc⟩, rfl, _, hk7⟩ := readIs_none hr
  have T7 := hide (T6.out.same hk7)
  have HB7 := hide (hk7.blk HB6.out (fun h => h))
  have HX7 := hide (HX6.out.kept hk7)
  clear hr hk7 T6 HB6 HX6
  go_wp2_with fail
  refine (writes_ok w7 b 4 1 LF1 X5 T7.out.at_ (by decide) 1 (by decide) okF1 1 erF1.2.2.1).mono ?_
  rintro e w8 ⟨⟨la, ln, lc⟩, ws, rfl, hws, hwr, hk8⟩
  rw [vaF1.1] at hwr
  obtain ⟨s8, rfl⟩ := one_of hwr
  obtain rfl : ln = 1 := WsAt.len hws
  obtain ⟨lg, lo, rfl, c0, c1, _, _⟩ := hws.get (k := 0) (by simp)
  simp only [Nat.zero_mul, Nat.add_zero, List.getElem_cons_zero] at c0
  have T8 := hide (T7.out.same hk8)
  have HSW := hide (src_blk13 (hk8.blk HB7.out (fun h => h)))
  have HX8 := hide (HX7.out.kept hk8)
  have HC := hide c0
  clear hws hwr c1 hk8 T7 HB7 HX7
  go_wp2_with (first
    | (with_reducible refine stop_convertG 40 9 ?_)
    | fail)
  refine hide ?_
  refine wpList_runG rfl (r_strS rfl HX8.out) ?_
  try simp only [put_lit, put_none, List.set_cons_succ, List.set_cons_zero]
  go_wp2_with (first
    | (with_reducible refine stop_convertG 40 9 ?_)
    | fail)
  refine hide ?_
  refine wpList_runG rfl (r_strS rfl HSW.out) ?_
  try simp only [put_lit, put_none, List.set_cons_succ, List.set_cons_zero]
  go_wp2_with fail
  refine (open_at w8 b 4 1 LF1 X5 T8.out.at_ (by decide)).mono ?_
  rintro e w9 ⟨⟨oa, on, oc⟩, rfl, ho, hk9⟩
  have hon : on = 1 := ho.1
  subst hon
  have T9 := hide (T8.out.same hk9)
  clear ho hk9 T8 HX8 HSW HC c0
  go_wp2_with fail
  refine (end_at w9 b 4 1 LF1 X5 T9.out.at_ (by decide) 1).mono ?_
  rintro e w10 ⟨he, hs10⟩
  rw [erF1.2.2.1, if_pos rfl] at he
  rw [vaF1.2.2.2] at hs10
  subst he
  obtain ⟨X10, ht10, _, _⟩ := T9.out.step hs10
  have T10 := hide ht10
  clear hs10 ht10 T9
  go_wp2_with fail
  refine (end_at w10 b 4 1 [] X10 T10.out.at_ (by decide) 1).mono ?_
  rintro e w11 ⟨he, hs11⟩
  rw [erF2] at he
  subst he
  obtain ⟨X11, ht11, _, _⟩ := T10.out.step hs11
  have K11 := hide ht11.kept
  clear hs11 ht11 T10
  go_wp2
  go_ret
  exact ⟨rfl, K11.out⟩
end Go.Proofs.Ytclfklcboigifaa
