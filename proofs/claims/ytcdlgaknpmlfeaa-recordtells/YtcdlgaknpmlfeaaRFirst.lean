/-
  What the statements ask ahead of everything else.
-/
import Derived.Test.YtcdlgaknpmlfeaaRMergeB
import Derived.Test.YtcdlgaknpmlfeaaRSect
import Derived.Test.YtcdlgaknpmlfeaaRSameR
import Derived.Test.YtcdlgaknpmlfeaaRGet
import Derived.Test.YtcdlgaknpmlfeaaPFirst
namespace Go.Proofs.Ytcdlgaknpmlfeaa
open Go.RowKit Go.Shelf
set_option linter.unusedSimpArgs false
set_option linter.unusedVariables false

/-- A slice of two values of some cells each is built. -/
theorem run_buildSlice_two {P : Program} {ρ : Operand → Value} {w : World} {dst : Option Tmp} {t ty e : TypeId} {x y : Operand} {pos : String} {aft : Array Edge} {gd : Option (Nat × Bool)} {i : TypeInfo} {z : Value} {M1 M2 : List Value} {v1 v2 : Value}
    (ht : P.underlying t = some (.slice e)) (hi : P.info? e = some i) (hz : i.zero = some z) (hsz : i.size = M1.length) (hpos : 0 < M1.length) (hbig : M1.length ≤ 1000) (he : M2.length = M1.length) (hx : ρ x = v1) (hy : ρ y = v2) (h1 : v1.cells = M1.toArray) (h2 : v2.cells = M2.toArray) :
    (execOp ρ ⟨dst, .buildSlice t 2 #[(0, x), (1, y)], ty, pos, aft, gd⟩).run P w = .ok (.value (.slice (some ⟨w.heap.size, 0, none⟩) 2 2)) (w.alloc (.cells (M1 ++ M2).toArray e)) := by
  have h0 : ¬ (M1.length = 0) := by omega
  have h00 : ¬ (2 * M1.length = 0) := by omega
  have hf := fill_one (fun i => some (i * M1.length, M1.length)) ((Array.range (2 * M1.length)).map (z.cells[· % z.cells.size]!)) 0 v1 [(1, v2)] 0 M1 h1 (by simp) (by simp; omega)
  have hL : (put ((Array.range (2 * M1.length)).map (z.cells[· % z.cells.size]!)).toList 0 M1).length = 2 * M1.length := by rw [length_put _ _ _ (by simp; omega)]; simp
  rw [fill_one (fun i => some (i * M1.length, M1.length)) _ 1 v2 [] M1.length M2 h2 (by simp [he]) (by simp only [List.size_toArray]; rw [hL, he]; omega), fill_nil] at hf
  have hp : put (put ((Array.range (2 * M1.length)).map (z.cells[· % z.cells.size]!)).toList 0 M1).toArray.toList M1.length M2 = M1 ++ M2 := by
    have hX : ∃ X, put ((Array.range (2 * M1.length)).map (z.cells[· % z.cells.size]!)).toList 0 M1 = M1 ++ X ∧ X.length = M1.length := by
      refine ⟨(((Array.range (2 * M1.length)).map (z.cells[· % z.cells.size]!)).toList.drop M1.length), by simp [put], by simp; omega⟩
    obtain ⟨X, hX, hl⟩ := hX
    rw [hX]
    simp only [put, List.take_left', List.toList_toArray]
    rw [List.drop_eq_nil_of_le (by simp; omega), List.append_nil]
  rw [hp] at hf
  have hb : ¬ (16777216 < 2 * M1.length) := by omega
  simp [execOp, Instr.buildSlice, run_underlying ht, sizeOf, typeInfo, hi, hsz, hb, h0, zeroValue, hz, hx, hy, newRow]
  rw [hf, if_neg h00]
  simp
theorem ws_blk {w : World} {g : Nat} {l : List Wv} {L : List Value} (hb : Blk w g L 40) (hL : L = encE ekB evB (l.map Wv.ent)) (hs : ∀ x ∈ l, Src w x.s.v x.B) (n : Nat) (hn : l.length = n) (hl : n ≤ 1000) : WsAt w (.slice (some ⟨g, 0, none⟩) n n) l := by
  subst hn
  refine ⟨⟨_, _, by rw [List.length_map], by rw [List.length_map]; exact Nat.le_refl _, fun _ => ⟨g, 0, rfl, ?_⟩⟩, hs, by omega⟩
  rw [← hL]
  intro j v hj
  rw [Nat.zero_add, hb.cell]
  exact hj
def z64 : List Nat := List.replicate 64 0
def wrF : Wr := ⟨1, z64⟩
def rcF : Rc := ⟨3, 1, 5, [wrF]⟩
def rcS : Rc := ⟨2, 0, 0, []⟩
theorem rcF_right : rightR rcF = true := by decide
theorem rcF_put : putRN rcF = putR rcF := by unfold putRN; rw [rcF_right]; rfl
theorem rcF_len : (putR rcF).length = 81 := by decide
theorem rcF_lt : ∀ x ∈ putR rcF, x < 256 := by decide
theorem rcS_put : putRN rcS = [2] := by decide
theorem z64_lt : ∀ x ∈ z64, x < 256 := by decide
theorem merge_F : mergeW [wrF, ⟨0, [97]⟩, ⟨1, [98]⟩] = [⟨0, [97]⟩, ⟨1, [98]⟩] := by rfl
theorem sect_F : sectN 81 = 3 := by rfl
/-- The write that the law makes, and its record. -/
def wvF (g1 : Nat) : Wv := ⟨1, ⟨some ⟨g1, 0, none⟩, 64, 64⟩, z64⟩
def rvF (g1 g2 : Nat) : Rv := ⟨3, 1, 5, ⟨some ⟨g2, 0, none⟩, 1, 1⟩, [wvF g1]⟩

set_option maxRecDepth 100000 in
set_option maxHeartbeats 8000000 in
theorem first_law (w : World) : Calls Try.prog 7 #[] w fun e w' => e = .returned (.bool true) ∧ Kept (fun _ => False) w w' := by
  obtain ⟨i24, hi24, hz24, hs24, hb24⟩ := info_parts Try.info24
  obtain ⟨i40, hi40, hz40, hs40, hb40⟩ := info_parts Try.info40
  obtain ⟨i22, hi22, hz22, hs22, hb22⟩ := info_parts Try.info22
  obtain ⟨i5, hi5, hz5, hs5, hb5⟩ := info_parts Try.info5
  have Hi24 := hide hi24
  have Hz24 := hide hz24
  have Hi40 := hide hi40
  have Hz40 := hide hz40
  have Hs40 := hide hs40
  have Hi22 := hide hi22
  have Hz22 := hide hz22
  have Hs22 := hide hs22
  have Hi5 := hide hi5
  have Hz5 := hide hz5
  have Hs5 := hide hs5
  have Hb5 := hide hb5
  clear hi24 hz24 hs24 hb24 hi40 hz40 hs40 hb40 hi22 hz22 hs22 hb22 hi5 hz5 hs5 hb5
  go_enter Try.func7, Try.ntmps7
  go_wp2_with (first
    | ((with_reducible refine aw_make (n := 64) 1 (by decide) Try.underlying25 Hi5.out Hz5.out rfl Hs5.out rfl rfl (by rw [Hb5.out]; decide) (by unfold maxLen; decide) ?_); intro w1 hw1 hk1 hz1; have Yz1 := hide hz1; clear hz1)
    | (with_reducible refine stop_bs 22 ?_)
    | fail)
  refine hide ?_
  obtain ⟨g1, hg1⟩ : ∃ g, g = w.heap.size := ⟨_, rfl⟩
  rw [← hg1] at hw1 ⊢
  refine wpList_run rfl (run_buildSlice_one (M := [.int .i64 1, .slice (some ⟨g1, 0, none⟩) 64 64]) Try.underlying22 Hi40.out Hz40.out Hs40.out (by simp) (by simp) (.inl rfl)) ?_
  have hb2 := Blk.new w1 [.int .i64 1, .slice (some ⟨g1, 0, none⟩) 64 64] 40
  have hk2 := Kept.alloc (fun _ => False) w1 (.cells [.int .i64 1, .slice (some ⟨g1, 0, none⟩) 64 64].toArray 40)
  obtain ⟨g2, hg2⟩ : ∃ g, g = w1.heap.size := ⟨_, rfl⟩
  rw [← hg2] at hb2 ⊢
  generalize w1.alloc (.cells [.int .i64 1, .slice (some ⟨g1, 0, none⟩) 64 64].toArray 40) = w2 at hb2 hk2 ⊢
  have hs2 : Src w2 (.slice (some ⟨g1, 0, none⟩) 64 64) z64 := (hk2.blk hw1 (fun h => h)).src (B := z64) (cap := 64) (by simp [z64, BV]) z64_lt (by decide)
  have HW2 : Hid (WsAt w2 (.slice (some ⟨g2, 0, none⟩) 1 1) [wvF g1]) := hide (ws_blk hb2 rfl (fun x hx => by simp at hx; subst hx; exact hs2) 1 rfl (by decide))
  have HK2 := hide (hk1.trans hk2 (fun _ _ h => h))
  clear hw1 hk1 hk2 hb2 hs2 hg1 hg2 Yz1
  go_wp2_with (first
    | ((with_reducible refine aw_alloc (dst := some 2) Hi24.out Hz24.out ?_); intro w3 hb3 hk3 hz3; have Yz3 := hide hz3; clear hz3)
    | ((with_reducible refine aw_store (x := .tmp 2) (M := [.int .i64 3, .int .i64 1, .int .i64 5, .slice (some ⟨g2, 0, none⟩) 1 1]) Try.agg24 rfl rfl rfl (by simp [Value.oneCell']) hb3 (by simp [Value.cells]) ?_); intro w4 hb4 hk4 hz4; have Yz4 := hide hz4; clear hz4; rw [put_whole _ _ (by simp [Value.cells])] at hb4)
    | (with_reducible refine stop_load 24 ?_)
    | fail)
  refine hide ?_
  refine aw_load (off := 0) (M := [.int .i64 3, .int .i64 1, .int .i64 5, .slice (some ⟨g2, 0, none⟩) 1 1]) Try.agg24 rfl hb4 (by simp) (by simp) ?_
  obtain ⟨b1, hb1⟩ : ∃ b, b = w2.heap.size := ⟨_, rfl⟩
  rw [← hb1] at hb4 ⊢
  have hk24 : Kept (fun _ => False) w2 w4 := hk3.trans hk4 (fun i hi h => by omega)
  have HB4 : Hid (Blk w4 b1 [.int .i64 3, .int .i64 1, .int .i64 5, .slice (some ⟨g2, 0, none⟩) 1 1] 24) := hide hb4
  have HR4 : Hid (RcAt w4 (rvF g1 g2)) := hide (HW2.out.kept hk24)
  have HK4 := hide (HK2.out.trans hk24 (fun _ _ h => h))
  clear hb3 hb4 hk3 hk4 hk24 HW2 HK2 hb1 Yz3 Yz4
  go_wp2_with fail
  refine (put_at w4 (rvF g1 g2) HR4.out).mono ?_
  rintro e w5 ⟨⟨ta, tn, tc⟩, rfl, hs5, hk5⟩
  have hs5 : Src w5 (.slice ta tn tc) (putR rcF) := by rw [← rcF_put]; exact hs5
  have hs5' := hs5
  obtain ⟨bo, cb, e, _⟩ := hs5'
  rw [rcF_len] at e
  simp only [Sl.v, Value.slice.injEq] at e
  obtain ⟨rfl, rfl, rfl⟩ := e
  have HG5 := hide (get_at w5 _ (putR rcF) hs5 (by rw [rcF_len]; decide))
  have HB5 := hide (hk5.blk HB4.out (fun h => h))
  have HR5 := hide (HR4.out.kept hk5)
  have HK5 := hide (HK4.out.trans hk5 (fun _ _ h => h))
  clear hs5 hk5 HB4 HR4 HK4
  go_wp2_with fail
  refine HG5.out.mono ?_
  rintro e w6 ⟨x, ec, rfl, ⟨hr, hg⟩, hk6⟩
  rw [getR_put _ rcF_right] at hg
  have hxe : x.rc = rcF ∧ ec = 0 := by
    rcases hg with ⟨h1, h2⟩ | ⟨h1, _⟩
    · exact ⟨(Option.some.inj h1).symm, h2⟩
    · cases h1
  obtain ⟨hxr, rfl⟩ := hxe
  have HSX : Hid (sameR x (rvF g1 g2) = true) := hide ((sameR_iff _ _).2 hxr)
  obtain ⟨kd, tl, nm, ⟨xa, xn, xc⟩, xl⟩ := x
  have HX6 := hide hr
  have HB6 := hide (hk6.blk HB5.out (fun h => h))
  have HR6 := hide (HR5.out.kept hk6)
  have HK6 := hide (HK5.out.trans hk6 (fun _ _ h => h))
  clear hr hg hk6 HB5 HR5 HK5 HG5 hxr
  simp only [Rv.agg, rAgg]
  go_wp2_with (first
    | ((with_reducible refine aw_alloc (dst := some 4) Hi24.out Hz24.out ?_); intro w7 hb7 hk7 hz7; have Yz7 := hide hz7; clear hz7)
    | ((with_reducible refine aw_store (x := .tmp 4) (M := [.int .i64 kd, .int .i64 tl, .int .i64 nm, .slice xa xn xc]) Try.agg24 rfl rfl rfl (by simp [Value.oneCell']) hb7 (by simp [Value.cells]) ?_); intro w8 hb8 hk8 hz8; have Yz8 := hide hz8; clear hz8; rw [put_whole _ _ (by simp [Value.cells])] at hb8)
    | ((with_reducible refine aw_text (d := 20) (d2 := 21) [97] rfl (by decide) (by decide) (by simp) rfl ?_); intro w9 g9 hc9 hg9 hk9)
    | ((with_reducible refine aw_text (d := 23) (d2 := 24) [98] rfl (by decide) (by decide) (by simp) rfl ?_); intro w10 g10 hc10 hg10 hk10)
    | (with_reducible refine stop_bs 22 ?_)
    | fail)
  refine hide ?_
  obtain ⟨b3, hb3⟩ : ∃ b, b = w6.heap.size := ⟨_, rfl⟩
  rw [← hb3] at hb8 ⊢
  have hk68 : Kept (fun _ => False) w6 w8 := hk7.trans hk8 (fun i hi h => by omega)
  have hk610 : Kept (fun _ => False) w6 w10 := (hk68.trans hk9 (fun _ _ h => h)).trans hk10 (fun _ _ h => h)
  have HBx10 : Hid (Blk w10 b3 [.int .i64 kd, .int .i64 tl, .int .i64 nm, .slice xa xn xc] 24) := hide (hk10.blk (hk9.blk hb8 (fun h => h)) (fun h => h))
  have hsa : Src w10 (.slice (some ⟨g9, 0, none⟩) 1 1) [97] := (cells_src [97] hc9 (by decide) (by decide)).kept hk10
  have hsb : Src w10 (.slice (some ⟨g10, 0, none⟩) 1 1) [98] := cells_src [98] hc10 (by decide) (by decide)
  refine wpList_run rfl (run_buildSlice_two (M1 := [.int .i64 0, .slice (some ⟨g9, 0, none⟩) 1 1]) (M2 := [.int .i64 1, .slice (some ⟨g10, 0, none⟩) 1 1]) Try.underlying22 Hi40.out Hz40.out Hs40.out (by simp) (by simp) rfl rfl rfl rfl rfl) ?_
  have hb11 := Blk.new w10 [.int .i64 0, .slice (some ⟨g9, 0, none⟩) 1 1, .int .i64 1, .slice (some ⟨g10, 0, none⟩) 1 1] 40
  have hk11 := Kept.alloc (fun _ => False) w10 (.cells [.int .i64 0, .slice (some ⟨g9, 0, none⟩) 1 1, .int .i64 1, .slice (some ⟨g10, 0, none⟩) 1 1].toArray 40)
  obtain ⟨g11, hg11⟩ : ∃ b, b = w10.heap.size := ⟨_, rfl⟩
  rw [← hg11] at hb11 ⊢
  simp only [List.cons_append, List.nil_append]
  generalize w10.alloc (.cells [.int .i64 0, .slice (some ⟨g9, 0, none⟩) 1 1, .int .i64 1, .slice (some ⟨g10, 0, none⟩) 1 1].toArray 40) = w11 at hb11 hk11 ⊢
  have hws11 : WsAt w11 (.slice (some ⟨g11, 0, none⟩) 2 2) [⟨0, ⟨some ⟨g9, 0, none⟩, 1, 1⟩, [97]⟩, ⟨1, ⟨some ⟨g10, 0, none⟩, 1, 1⟩, [98]⟩] := ws_blk hb11 rfl (fun x hx => by
    rcases List.mem_cons.1 hx with rfl | hx
    · exact hsa.kept hk11
    · obtain rfl := List.mem_singleton.1 hx
      exact hsb.kept hk11) 2 rfl (by decide)
  have hk611 := hk610.trans hk11 (fun _ _ h => h)
  refine wpList_run rfl (run_bs1 (M := [.slice (some ⟨g2, 0, none⟩) 1 1, .slice (some ⟨g11, 0, none⟩) 2 2]) Try.underlying38 Hi22.out Hz22.out Hs22.out rfl (by simp) (by simp [Value.cells]) rfl) ?_
  have hb12 := Blk.new w11 [.slice (some ⟨g2, 0, none⟩) 1 1, .slice (some ⟨g11, 0, none⟩) 2 2] 22
  have hk12 := Kept.alloc (fun _ => False) w11 (.cells [.slice (some ⟨g2, 0, none⟩) 1 1, .slice (some ⟨g11, 0, none⟩) 2 2].toArray 22)
  obtain ⟨g12, hg12⟩ : ∃ b, b = w11.heap.size := ⟨_, rfl⟩
  rw [← hg12] at hb12 ⊢
  generalize w11.alloc (.cells [.slice (some ⟨g2, 0, none⟩) 1 1, .slice (some ⟨g11, 0, none⟩) 2 2].toArray 22) = w12 at hb12 hk12 ⊢
  have hk612 := hk611.trans hk12 (fun _ _ h => h)
  have hls : LsAt w12 (.slice (some ⟨g12, 0, none⟩) 2 2) [(⟨some ⟨g2, 0, none⟩, 1, 1⟩, [wvF g1]), (⟨some ⟨g11, 0, none⟩, 2, 2⟩, [⟨0, ⟨some ⟨g9, 0, none⟩, 1, 1⟩, [97]⟩, ⟨1, ⟨some ⟨g10, 0, none⟩, 1, 1⟩, [98]⟩])] := by
    refine ⟨⟨_, _, rfl, Nat.le_refl _, fun _ => ⟨g12, 0, rfl, fun j v hj => by rw [Nat.zero_add, hb12.cell]; exact hj⟩, fun h => by cases h⟩, fun x hx => ?_, by simp⟩
    rcases List.mem_cons.1 hx with rfl | hx
    · exact HR6.out.kept hk612
    · obtain rfl := List.mem_singleton.1 hx
      exact hws11.kept hk12
  have HM12 := hide (merge_at w12 _ _ hls (by simp [allV]) (fun y hy => by
    simp only [allV, List.map_cons, List.map_nil, List.flatten_cons, List.flatten_nil, List.append_nil, List.cons_append, List.nil_append] at hy
    rcases List.mem_cons.1 hy with rfl | hy
    · simp [wvF, z64]
    · rcases List.mem_cons.1 hy with rfl | hy
      · simp
      · obtain rfl := List.mem_singleton.1 hy
        simp))
  have HBx12 := hide (hk12.blk (hk11.blk HBx10.out (fun h => h)) (fun h => h))
  have HX12 := hide (HX6.out.kept hk612)
  have HB12 := hide (hk612.blk HB6.out (fun h => h))
  have HR12 := hide (HR6.out.kept hk612)
  have HK12 := hide (HK6.out.trans hk612 (fun _ _ h => h))
  clear hb7 hb8 hk7 hk8 hk68 hk610 hk611 hk612 hk9 hk10 hk11 hk12 hc9 hc10 hsa hsb hb11 hb12 hws11 hls hg11 hg12 hg9 hg10 hb3 HBx10 HX6 HB6 HR6 HK6 Yz7 Yz8
  go_wp2_with fail
  refine HM12.out.mono ?_
  rintro e w13 ⟨⟨ma, mn, mc⟩, mw, rfl, hmo, hmm, hml, hk13⟩
  have hmm' : mw.map Wv.wr = [⟨0, [97]⟩, ⟨1, [98]⟩] := hmm.trans merge_F
  have hmlen : mw.length = 2 := by have := congrArg List.length hmm'; simpa using this
  have hma : WsAt w13 (.slice ma mn mc) mw := hmo.at (by omega)
  obtain rfl : mn = mw.length := WsAt.len hma
  obtain ⟨mg, moff, rfl, m0, m1, msrc, mn1⟩ := hma.get (k := 1) (by omega)
  have hmB : (mw[1]'(by omega)).B = [98] := by
    have h1 : (mw.map Wv.wr)[1]? = some ⟨1, [98]⟩ := by rw [hmm']; rfl
    rw [List.getElem?_map, List.getElem?_eq_getElem (by omega)] at h1
    simp only [Option.map_some, Option.some.injEq, Wv.wr, Wr.mk.injEq] at h1
    exact h1.2
  obtain ⟨y, hy⟩ : ∃ y, y = mw[1]'(by omega) := ⟨_, rfl⟩
  rw [← hy] at m0 m1 msrc mn1 hmB
  obtain ⟨yk, ⟨ya, yn, yc⟩, yB⟩ := y
  simp only at hmB m1 mn1
  subst hmB
  rw [hmlen]
  have HY13 : Hid (Src w13 (.slice ya yn yc) [98]) := hide msrc
  have HC13 : Hid (Cells w13 mg (moff + 2) [.int .i64 yk, .slice ya yn yc]) := hide (by
    intro j u hj
    match j with
    | 0 => simp at hj; rw [← hj]; exact m0
    | 1 => simp at hj; rw [← hj]; exact m1
    | j + 2 => simp at hj)
  have HBx13 := hide (hk13.blk HBx12.out (fun h => h))
  have HX13 := hide (HX12.out.kept hk13)
  have HB13 := hide (hk13.blk HB12.out (fun h => h))
  have HR13 := hide (HR12.out.kept hk13)
  have HK13 := hide (HK12.out.trans hk13 (fun _ _ h => h))
  have c0 : w13.cell? ⟨b1, 0, none⟩ = some (.int .i64 3) := HB13.out.cell 0
  have c1 : w13.cell? ⟨b1, 1, none⟩ = some (.int .i64 1) := HB13.out.cell 1
  have c2 : w13.cell? ⟨b1, 2, none⟩ = some (.int .i64 5) := HB13.out.cell 2
  have c3 : w13.cell? ⟨b1, 3, none⟩ = some (.slice (some ⟨g2, 0, none⟩) 1 1) := HB13.out.cell 3
  have d0 : w13.cell? ⟨b3, 0, none⟩ = some (.int .i64 kd) := HBx13.out.cell 0
  have d1 : w13.cell? ⟨b3, 1, none⟩ = some (.int .i64 tl) := HBx13.out.cell 1
  have d2 : w13.cell? ⟨b3, 2, none⟩ = some (.int .i64 nm) := HBx13.out.cell 2
  have d3 : w13.cell? ⟨b3, 3, none⟩ = some (.slice xa xn xc) := HBx13.out.cell 3
  clear hmo hmm hml hk13 hmm' hmlen hma m0 m1 msrc mn1 hy HM12 HBx12 HX12 HB12 HR12 HK12
  go_wp2_with fail
  refine (rsame_at w13 ⟨kd, tl, nm, ⟨xa, xn, xc⟩, xl⟩ (rvF g1 g2) HX13.out HR13.out true HSX.out).mono ?_
  rintro e w14 ⟨rfl, hk14⟩
  have HB14 := hide (hk14.blk HB13.out (fun h => h))
  have HR14 := hide (HR13.out.kept hk14)
  have HK14 := hide (HK13.out.trans hk14 (fun _ _ h => h))
  have HY14 := hide (HY13.out.kept hk14)
  have HC14 := hide (hk14.cells HC13.out (fun h => h))
  clear c0 c1 c2 c3 d0 d1 d2 d3
  have c0 : w14.cell? ⟨b1, 0, none⟩ = some (.int .i64 3) := HB14.out.cell 0
  have c1 : w14.cell? ⟨b1, 1, none⟩ = some (.int .i64 1) := HB14.out.cell 1
  have c2 : w14.cell? ⟨b1, 2, none⟩ = some (.int .i64 5) := HB14.out.cell 2
  have c3 : w14.cell? ⟨b1, 3, none⟩ = some (.slice (some ⟨g2, 0, none⟩) 1 1) := HB14.out.cell 3
  clear hk14 HBx13 HX13 HB13 HR13 HK13 HY13 HC13
  go_wp2_with fail
  refine (rsect_at w14 (rvF g1 g2) HR14.out (putR rcF) rcF_put (by rw [rcF_len]; decide) 3 (by rw [rcF_len]; exact sect_F)).mono ?_
  rintro e w15 ⟨rfl, hk15⟩
  have HB15 := hide (hk15.blk HB14.out (fun h => h))
  have HR15 := hide (HR14.out.kept hk15)
  have HK15 := hide (HK14.out.trans hk15 (fun _ _ h => h))
  have HY15 := hide (HY14.out.kept hk15)
  have HC15 := hide (hk15.cells HC14.out (fun h => h))
  clear hk15 HB14 HR14 HK14 HY14 HC14 c0 c1 c2 c3
  go_wp2_with fail
  refine (put_at w15 ⟨2, 0, 0, ⟨none, 0, 0⟩, []⟩ (WsAt.nil w15)).mono ?_
  rintro e w16 ⟨⟨pa, pn, pc⟩, rfl, hs16, hk16⟩
  have HS16 : Hid (Src w16 (.slice pa pn pc) [2]) := hide (by rw [← rcS_put]; exact hs16)
  have HB16 := hide (hk16.blk HB15.out (fun h => h))
  have HR16 := hide (HR15.out.kept hk16)
  have HK16 := hide (HK15.out.trans hk16 (fun _ _ h => h))
  have HY16 := hide (HY15.out.kept hk16)
  have HC16 := hide (hk16.cells HC15.out (fun h => h))
  have c0 : w16.cell? ⟨b1, 0, none⟩ = some (.int .i64 3) := HB16.out.cell 0
  have c1 : w16.cell? ⟨b1, 1, none⟩ = some (.int .i64 1) := HB16.out.cell 1
  have c2 : w16.cell? ⟨b1, 2, none⟩ = some (.int .i64 5) := HB16.out.cell 2
  have c3 : w16.cell? ⟨b1, 3, none⟩ = some (.slice (some ⟨g2, 0, none⟩) 1 1) := HB16.out.cell 3
  clear hs16 hk16 HB15 HR15 HK15 HY15 HC15
  go_wp2_with fail
  rw [run_strS HS16.out, show strN [2] = ⟨#[2]⟩ from rfl]
  go_wp2_with fail
  refine (right_at w16 (rvF g1 g2) HR16.out).mono ?_
  rintro e w17 ⟨rfl, hk17⟩
  rw [show rightR (rvF g1 g2).rc = true from rcF_right]
  have HK17 := hide (HK16.out.trans hk17 (fun _ _ h => h))
  have HY17 := hide (HY16.out.kept hk17)
  have m0 : w17.cell? ⟨mg, moff + 2, none⟩ = some (.int .i64 yk) := hk17.cells HC16.out (fun h => h) 0 _ rfl
  have m1 : w17.cell? ⟨mg, moff + 2 + 1, none⟩ = some (.slice ya yn yc) := hk17.cells HC16.out (fun h => h) 1 _ rfl
  clear hk17 HB16 HR16 HK16 HY16 HC16 c0 c1 c2 c3
  go_wp2_with fail
  rw [run_strS HY17.out, show strN [98] = ⟨#[98]⟩ from rfl]
  go_wp2
  go_ret
  exact ⟨rfl, HK17.out⟩
end Go.Proofs.Ytcdlgaknpmlfeaa
