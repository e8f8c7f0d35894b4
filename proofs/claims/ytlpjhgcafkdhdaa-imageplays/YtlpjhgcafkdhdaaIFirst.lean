/-
  What the statements ask ahead of everything else.
-/
import Derived.Test.YtlpjhgcafkdhdaaIBytes
namespace Go.Proofs.Ytlpjhgcafkdhdaa
open Go.RowKit Go.Shelf
set_option linter.unusedSimpArgs false
set_option linter.unusedVariables false
set_option maxRecDepth 100000

section
variable {P : Program} {ops : Array Oper} {Q : Exit → Act → World → Prop} {a : Act} {w w' : World} {rest : List Oper} {o : Oper} {v : Value} {dst : Option Tmp} {ty : TypeId} {pos : String} {aft : Array Edge} {gd : Option (Nat × Bool)} {x y : Operand}
theorem wpList_runG (hg : Region.wanted o (yielded ops a.tmps) = true) (hr : (execOp a.eval o).run P w = .ok (.value v) w') (h : wpList P ops Q rest (a.put o.dst v) w') : wpList P ops Q (o :: rest) a w :=
  wpList_step fun K hK => by rw [if_pos hg]; unfold Oper.wp; rw [hr]; exact hK _ _ h
theorem stop_convertG (t u : TypeId) (h : Hid (wpList P ops Q (⟨dst, .convert t u x, ty, pos, aft, gd⟩ :: rest) a w)) : wpList P ops Q (⟨dst, .convert t u x, ty, pos, aft, gd⟩ :: rest) a w := h.out
/-- One write, in a list of its own. -/
theorem aw_ws1 {ty2 : TypeId} {pos2 : String} {aft2 : Array Edge} {d1 d2 : Nat} (p : Int) (s : Sl) (B : List Nat) (hs : Src w s.v B) (hx : a.eval x = .int .i64 p) (hy : a.eval y = .slice s.a s.n s.c) (hd : (a.put (some d1) (.agg #[.int .i64 p, .slice s.a s.n s.c])).eval (.tmp d1) = .agg #[.int .i64 p, .slice s.a s.n s.c])
    (h : ∀ w' sw, sw = .slice (some ⟨w.heap.size, 0, none⟩) 1 1 → WsAt w' sw [⟨p, s, B⟩] → Kept (fun _ => False) w w' → wpList Try.prog ops Q rest ((a.put (some d1) (.agg #[.int .i64 p, .slice s.a s.n s.c])).put (some d2) (.slice (some ⟨w.heap.size, 0, none⟩) 1 1)) w') :
    wpList Try.prog ops Q (⟨some d1, .build 53 #[(0, x), (1, y)], ty, pos, aft, none⟩ :: ⟨some d2, .buildSlice 36 1 #[(0, .tmp d1)], ty2, pos2, aft2, none⟩ :: rest) a w := by
  obtain ⟨i0, hi0, hz0, hs0, hb0⟩ := info_parts Try.info53
  refine wpList_run rfl (run_build_two (o1 := 0) (s1 := 1) (o2 := 1) (s2 := 1) (M1 := [.int .i64 p]) (M2 := [.slice s.a s.n s.c]) hi0 hz0 Try.underlying53 (by kernel_rfl) hx hy rfl rfl rfl rfl (by simp [Value.cells]) (by simp [Value.cells])) ?_
  have e : (put (put (Value.cells (.agg #[.int .i64 0, .slice none 0 0])).toList 0 [.int .i64 p]) 1 [.slice s.a s.n s.c]).toArray = #[.int .i64 p, .slice s.a s.n s.c] := by simp [put, Value.cells]
  rw [e]
  refine wpList_run rfl (run_buildSlice_one (M := [.int .i64 p, .slice s.a s.n s.c]) Try.underlying36 hi0 hz0 hs0 (by simp) (by simp) (.inl hd)) ?_
  have hb := Blk.new w [.int .i64 p, .slice s.a s.n s.c] 53
  have hk : Kept (fun _ => False) w (w.alloc (.cells [.int .i64 p, .slice s.a s.n s.c].toArray 53)) := Kept.alloc _ _ _
  refine h _ _ rfl ⟨⟨_, 1, rfl, Nat.le_refl _, fun _ => ⟨_, 0, rfl, ?_⟩⟩, ?_, by simp⟩ hk
  · have := hb.cells 0 2
    simpa [encE, Wv.ent] using this
  · intro x hx
    simp at hx
    subst hx
    exact hs.kept hk
end
def wF : List Nat := (List.replicate 64 0).set 3 9
theorem wF_len : wF.length = 64 := by simp [wF]
theorem wF_lt : ∀ x ∈ wF, x < 256 := by decide
def zF : List Nat := List.replicate (64 * 2) 0
def xF : List Nat := withB zF [⟨1, wF⟩]
theorem eF1 : withE 2 [⟨1, wF⟩] = 0 := by decide
theorem eF2 : withE 2 [⟨2, wF⟩] = 41 := by decide
theorem eF3 : withE 2 [⟨0, wF.take 5⟩] = 42 := by decide
theorem xF_get : getB xF 1 = wF := by decide
theorem xF_diff : diffB 2 zF 2 xF = [1] := by decide
theorem zx_ne : zF ≠ xF := by decide
theorem zF_len : zF.length = 128 := by decide
theorem run_slice_hi {P : Program} {ρ : Operand → Value} {w : World} {dst : Option Tmp} {t ty elem : TypeId} {x hi : Operand} {pos : String} {aft : Array Edge} {gd : Option (Nat × Bool)} {i : TypeInfo} {b off len cap : Nat} {k : IntKind}
    (ht : P.underlying t = some (.slice elem)) (hi' : P.info? elem = some i) (hx : ρ x = .slice (some ⟨b, off, none⟩) len cap) (h : Nat) (hh : ρ hi = .int k h) (hl : h ≤ cap) (h0 : 0 < cap) :
    (execOp ρ ⟨dst, .slice t x none (some hi) none, ty, pos, aft, gd⟩).run P w = .ok (.value (.slice (some ⟨b, off, none⟩) h cap)) w := by
  have h2 : (0 : Int) ≤ (h : Int) ∧ (h : Int) ≤ (cap : Int) := by omega
  have h3 : ¬ cap = 0 := by omega
  simp [execOp, Instr.sliceAt, run_underlying ht, Instr.slice, hx, hh, Instr.sliceBounds, Instr.sliceBound, asIntOf, h2, hl, sizeOf, typeInfo, hi', h3, addr_add]

set_option maxHeartbeats 8000000 in
theorem first_at (w : World) : Calls Try.prog 7 #[] w fun e w' => e = .returned (.bool true) ∧ Kept (fun _ => False) w w' := by
  obtain ⟨i5, hi5, hz5, hs5, hb5⟩ := info_parts Try.info5
  have Hi5 := hide hi5
  have Hz5 := hide hz5
  have Hs5 := hide hs5
  have Hb5 := hide hb5
  clear hi5 hz5 hs5 hb5
  go_enter Try.func7, Try.ntmps7
  go_wp2_with fail
  refine (new_ok w 2 (by decide)).mono ?_
  rintro e w1 ⟨d, rfl, hk1, hd1⟩
  have K1 := hide hk1
  have D1 := hide hd1
  obtain ⟨pd, rfl, _⟩ := hd1.ptr
  clear hk1 hd1
  go_wp2_with (first
    | ((with_reducible refine aw_make (n := 64) 1 (by decide) Try.underlying28 Hi5.out Hz5.out rfl Hs5.out rfl rfl (by rw [Hb5.out]; decide) (by decide) ?_); intro w2 hw2 hk2 hz2; have HW2 := hide hw2; have HK2 := hide hk2; clear hw2 hk2 hz2)
    | (with_reducible refine stop_store 5 ?_)
    | fail)
  refine hide ?_
  refine aw_store1 (v := .int .u8 9) Hi5.out Hs5.out rfl rfl rfl rfl HW2.out (by simp) ?_
  intro w3 hw3 hk3 hz3
  obtain ⟨g, hg⟩ : ∃ g, g = w1.heap.size := ⟨_, rfl⟩
  have hsw : Src w3 (.slice (some ⟨g, 0, none⟩) 64 64) wF := by
    have : Blk w3 g (BV wF) 5 := by rw [hg]; exact hw3
    exact this.src (B := wF) (cap := 64) (by rw [List.take_of_length_le (by rw [BV_length]; exact Nat.le_refl _)]) wF_lt (Nat.le_refl _)
  have K3 := hide (K1.out.trans (HK2.out.trans hk3 (S := fun _ => False) (fun i hi h => by omega)) (fun _ _ h => h))
  have D3 := hide ((D1.out.kept HK2.out).keptB HW2.out (by decide) (by decide) hk3)
  have SW := hide hsw
  rw [← hg]
  clear hw3 hk3 hz3 hg hsw HW2 HK2 K1 D1
  try simp only [put_lit, put_none, List.set_cons_succ, List.set_cons_zero]
  go_wp2_with (first | (with_reducible refine stop_build 53 ?_) | fail)
  refine hide ?_
  refine aw_ws1 1 ⟨some ⟨g, 0, none⟩, 64, 64⟩ wF SW.out rfl rfl rfl ?_
  intro w4 sw hsw hws hk4
  rw [← hsw]
  have K4 := hide (K3.out.trans hk4 (fun _ _ h => h))
  have D4 := hide (D3.out.kept hk4)
  have SW4 := hide (SW.out.kept hk4)
  have WS := hide hws
  obtain ⟨so, sn, rfl⟩ := WS.out.slice
  clear hws hk4 K3 D3 SW hsw
  try simp only [put_lit, put_none, List.set_cons_succ, List.set_cons_zero]
  go_wp2_with fail
  refine (with_at w4 _ 2 _ D4.out (by decide) _ _ WS.out).mono ?_
  rintro e w5 ⟨x, he, ⟨hx, _⟩, hk5⟩
  have hx := hx eF1
  obtain ⟨px, rfl, _⟩ := hx.ptr
  rw [show withE 2 (List.map Wv.wr [⟨1, ⟨some ⟨g, 0, none⟩, 64, 64⟩, wF⟩]) = 0 from eF1] at he
  subst he
  have K5 := hide (K4.out.trans hk5 (fun _ _ h => h))
  have D5 := hide (D4.out.kept hk5)
  have X5 : Hid (DkAt w5 (.pointer px) 2 xF) := hide hx
  have SW5 := hide (SW4.out.kept hk5)
  clear hx hk5 K4 D4 SW4 WS
  go_wp2_with (first | (with_reducible refine stop_build 53 ?_) | fail)
  refine hide ?_
  refine aw_ws1 2 ⟨some ⟨g, 0, none⟩, 64, 64⟩ wF SW5.out rfl rfl rfl ?_
  intro w6 sw hsw hws hk6
  rw [← hsw]
  have K6 := hide (K5.out.trans hk6 (fun _ _ h => h))
  have D6 := hide (D5.out.kept hk6)
  have X6 := hide (X5.out.kept hk6)
  have SW6 := hide (SW5.out.kept hk6)
  have WS := hide hws
  obtain ⟨so, sn, rfl⟩ := WS.out.slice
  clear hws hk6 K5 D5 SW5 X5 hsw
  try simp only [put_lit, put_none, List.set_cons_succ, List.set_cons_zero]
  go_wp2_with fail
  refine (with_at w6 _ 2 _ D6.out (by decide) _ _ WS.out).mono ?_
  rintro e w7 ⟨y, he, ⟨_, hy⟩, hk7⟩
  rw [show withE 2 (List.map Wv.wr [⟨2, ⟨some ⟨g, 0, none⟩, 64, 64⟩, wF⟩]) = 41 from eF2] at he hy
  have hy := hy (by decide)
  subst hy he
  have K7 := hide (K6.out.trans hk7 (fun _ _ h => h))
  have D7 := hide (D6.out.kept hk7)
  have X7 := hide (X6.out.kept hk7)
  have SW7 := hide (SW6.out.kept hk7)
  clear hk7 K6 D6 SW6 X6 WS
  go_wp2_with (first | (with_reducible refine stop_slice 28 ?_) | fail)
  refine hide ?_
  refine wpList_run rfl (run_slice_hi Try.underlying28 Hi5.out rfl 5 rfl (by decide) (by decide)) ?_
  have hs5 : Src w7 (.slice (some ⟨g, 0, none⟩) 5 64) (wF.take 5) := by
    obtain ⟨bo, cap, e, h1, h2, h3, h4⟩ := SW7.out
    cases e
    obtain ⟨sb, so, e, hc⟩ := h3 (by decide)
    cases e
    refine ⟨_, 64, rfl, by decide, fun x hx => h2 x (List.mem_of_mem_take hx), fun _ => ⟨_, _, rfl, ?_⟩, fun h => by cases h⟩
    have := hc.part 0 5
    simpa [BV_take] using this
  have HS5 := hide hs5
  clear hs5
  try simp only [put_lit, put_none, List.set_cons_succ, List.set_cons_zero]
  go_wp2_with (first | (with_reducible refine stop_build 53 ?_) | fail)
  refine hide ?_
  refine aw_ws1 0 ⟨some ⟨g, 0, none⟩, 5, 64⟩ (wF.take 5) HS5.out rfl rfl rfl ?_
  intro w8 sw hsw hws hk8
  rw [← hsw]
  have K8 := hide (K7.out.trans hk8 (fun _ _ h => h))
  have D8 := hide (D7.out.kept hk8)
  have X8 := hide (X7.out.kept hk8)
  have SW8 := hide (SW7.out.kept hk8)
  have WS := hide hws
  obtain ⟨so, sn, rfl⟩ := WS.out.slice
  clear hws hk8 K7 D7 SW7 X7 HS5 hsw
  try simp only [put_lit, put_none, List.set_cons_succ, List.set_cons_zero]
  go_wp2_with fail
  refine (with_at w8 _ 2 _ D8.out (by decide) _ _ WS.out).mono ?_
  rintro e w9 ⟨y, he, ⟨_, hy⟩, hk9⟩
  rw [show withE 2 (List.map Wv.wr [⟨0, ⟨some ⟨g, 0, none⟩, 5, 64⟩, wF.take 5⟩]) = 42 from eF3] at he hy
  have hy := hy (by decide)
  subst hy he
  have K9 := hide (K8.out.trans hk9 (fun _ _ h => h))
  have D9 := hide (D8.out.kept hk9)
  have X9 := hide (X8.out.kept hk9)
  have SW9 := hide (SW8.out.kept hk9)
  clear hk9 K8 D8 SW8 X8 WS
  go_wp2_with fail
  refine (get_ok w9 _ 2 _ X9.out 1 (by decide)).mono ?_
  rintro e w10 ⟨s, rfl, ho, hk10⟩
  rw [xF_get] at ho
  have K10 := hide (K9.out.trans hk10 (fun _ _ h => h))
  have D10 := hide (D9.out.kept hk10)
  have X10 := hide (X9.out.kept hk10)
  have SW10 := hide (SW9.out.kept hk10)
  have SY10 := hide ho.src
  clear ho hk10 K9 D9 X9 SW9
  go_wp2_with fail
  refine (diff_at w10 _ _ 2 2 _ _ D10.out X10.out).mono ?_
  rintro e w11 ⟨v, rfl, hg11⟩
  have hg11 : Gath w10 w11 v [1] := hg11
  obtain ⟨ov, cv, rfl⟩ := ownsRow_slice hg11.1
  have hk11 := hg11.2.2
  have hsv := hg11.src
  have K11 := hide (K10.out.trans hk11 (fun _ _ h => h))
  have D11 := hide (D10.out.kept hk11)
  have X11 := hide (X10.out.kept hk11)
  have SW11 := hide (SW10.out.kept hk11)
  have SY11 := hide (SY10.out.kept hk11)
  obtain ⟨go, gc, e, _, hc, _⟩ := hsv
  cases e
  obtain ⟨gg, go, rfl, hcc⟩ := hc (by decide)
  have c1 : w11.cell? ⟨gg, go, none⟩ = some (.int .i64 1) := hcc 0 _ rfl
  clear hg11 hk11 K10 D10 X10 SW10 SY10 hcc hc
  go_wp2_with (first | (with_reducible refine stop_convertG 28 9 ?_) | fail)
  refine hide ?_
  refine wpList_runG rfl (r_strS rfl SY11.out) ?_
  try simp only [put_lit, put_none, List.set_cons_succ, List.set_cons_zero]
  go_wp2_with (first | (with_reducible refine stop_convertG 28 9 ?_) | fail)
  refine hide ?_
  refine wpList_runG rfl (r_strS rfl SW11.out) ?_
  try simp only [put_lit, put_none, List.set_cons_succ, List.set_cons_zero]
  go_wp2_with fail
  refine (same_at w11 _ _ 2 2 _ _ D11.out X11.out false (by decide)).mono ?_
  rintro e w12 ⟨rfl, hk12⟩
  have K12 := hide (K11.out.trans hk12 (fun _ _ h => h))
  have D12 := hide (D11.out.kept hk12)
  clear hk12
  go_wp2_with fail
  refine (same_at w12 _ _ 2 2 _ _ D12.out D12.out true (by simp)).mono ?_
  rintro e w13 ⟨rfl, hk13⟩
  have K13 := hide (K12.out.trans hk13 (fun _ _ h => h))
  have D13 := hide (D12.out.kept hk13)
  clear hk13
  go_wp2_with fail
  refine (bytes_at w13 _ 2 _ D13.out).mono ?_
  rintro e w14 ⟨sb, rfl, ho, hk14⟩
  have K14 := hide (K13.out.trans hk14 (fun _ _ h => h))
  have hsn : sb.n = 128 := by
    obtain ⟨bo, c, e, _⟩ := ho.src
    simp only [Sl.v, Value.slice.injEq] at e
    rw [e.2.1]; exact zF_len
  obtain ⟨sa, sn, sc⟩ := sb
  simp only at hsn
  subst hsn
  clear hk14 ho
  go_wp2
  go_ret
  exact ⟨rfl, K14.out⟩
end Go.Proofs.Ytlpjhgcafkdhdaa
