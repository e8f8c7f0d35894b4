/-
  What the statements ask ahead of everything else.
-/
import Derived.Test.YtjkggmjcaedggaaFrSame
namespace Go.Proofs.Ytjkggmjcaedggaa
open Go.RowKit Go.Shelf
set_option linter.unusedSimpArgs false
set_option linter.unusedVariables false

theorem Src.ne3 {w : World} {v : Value} {B : List Nat} {k : Nat} {n : Int} (h : Src w v B) (h0 : 0 < B.length) (hk : vX v k) (hb : Blk w k [.int .i64 n] 3) : False := by
  obtain ⟨off, m, c, rfl⟩ := hk
  obtain ⟨bo, cap, e, h1, h2, h3, h4⟩ := h
  cases e
  obtain ⟨sb, so, e, hc⟩ := h3 h0
  cases e
  have := hc 0 _ (BV_get B 0 h0)
  rw [hb.cell] at this
  match off, this with
  | 0, h => simp at h
  | n + 1, h => simp at h
theorem chunk_le (B : List Nat) : ∀ x ∈ chunkN B, x.length ≤ 90000000 := by
  intro x hx
  simp only [chunkN, List.mem_map] at hx
  obtain ⟨i, _, rfl⟩ := hx
  simp
  omega
theorem gather_cut (w : World) (lsn : Int) (v : Value) (B : List Nat) (bl bp bc n0 : Nat) (hbl : Blk w bl [v] 22) (hbp : Blk w bp [.pointer (some ⟨bc, 0, none⟩)] 42) (hbc : Blk w bc [.int .i64 (n0 : Int)] 3) (hv : Src w v B) (hl : B.length ≤ 1000000) (hn0 : n0 ≤ 1000000) (hlsn : 0 ≤ lsn ∧ lsn ≤ 4611686018427387903) :
    Calls Try.prog 15 #[.int .i64 lsn, .func (.func 35) #[] #[.pointer (some ⟨bl, 0, none⟩), .pointer (some ⟨bp, 0, none⟩)]] w fun e w' => ∃ v' pre, e = .returned (.tuple #[v', .int .i64 (gEnd (gRun (gStart lsn) (chunkN B))).2.1, .int .i64 (gEnd (gRun (gStart lsn) (chunkN B))).2.2]) ∧ Src w' v' (gEnd (gRun (gStart lsn) (chunkN B))).1 ∧ Kept (fun k => k = bc) w w' ∧ Blk w' bc [.int .i64 ((n0 + pre.length : Nat) : Int)] 3 ∧ (∃ post, chunkN B = pre ++ post) ∧ (pre = chunkN B ∨ ∃ r, gRun (gStart lsn) pre = .inr r) := by
  have hap : ∀ k, cutX bl bp B v k → k ≠ bc := by
    rintro k (rfl | rfl | ⟨h0, hk⟩) rfl
    · exact hbl.ne hbc (by decide) rfl
    · exact hbp.ne hbc (by decide) rfl
    · exact hv.ne3 h0 hk hbc
  refine (gather_at w lsn _ _ _ (chunkN B) _ (cut_ok hbl hbp hbc hv hl hn0 hap) ⟨_, _, rfl⟩ hlsn (chunk_le B)).mono ?_
  rintro e w' ⟨v', pre, b, rfl, h1, h2, h3, h4, h5⟩
  exact ⟨v', pre, rfl, h1, h2, h3, h4, h5⟩

def frF : Fr := ⟨5, 2, 1, 3, [97, 98, 99]⟩
def zero50 : List Nat := List.replicate 50 0
theorem spread50 : (sectorsOf 9 (fun _ => 1) zero50).flatten.length = 128 := by
  rw [flat_len _ sectorsOf_64, sectorsOf_length]
  rfl
theorem lsn50 : LsnOk 9 zero50.length := by
  refine ⟨by decide, ?_, by decide⟩
  have : sectN zero50.length = 2 := rfl
  rw [this]; decide
theorem zero50_lt : ∀ x ∈ zero50, x < 256 := by
  intro x hx
  rw [List.eq_of_mem_replicate hx]; decide
theorem run50 : gRun (gStart 9) (chunkN (sectorsOf 9 (fun _ => 1) zero50).flatten) = .inr (zero50, 2, 0) := by
  rw [chunk_flat _ sectorsOf_64]
  rcases gather_spread (ep := fun _ => 1) lsn50 (fun _ => by decide) zero50_lt with h | ⟨_, i, _, hi⟩
  · exact h.1
  · exact absurd rfl hi
theorem pre50 {pre : List (List Nat)} (h1 : ∃ post, chunkN (sectorsOf 9 (fun _ => 1) zero50).flatten = pre ++ post) (h2 : pre = chunkN (sectorsOf 9 (fun _ => 1) zero50).flatten ∨ ∃ r, gRun (gStart 9) pre = .inr r) : pre.length = 2 := by
  rw [chunk_flat _ sectorsOf_64] at h1 h2
  have hl : (sectorsOf 9 (fun _ => 1) zero50).length = 2 := by rw [sectorsOf_length]; rfl
  rcases h2 with rfl | ⟨r, hr⟩
  · exact hl
  · obtain ⟨post, hp⟩ := h1
    have e : sectorsOf 9 (fun _ => 1) zero50 = [putN (frameAt 9 1 zero50 0), putN (frameAt 9 1 zero50 1)] := rfl
    match pre, hr, hp with
    | [], hr, _ => simp [gRun] at hr
    | [x], hr, hp =>
      rw [e] at hp
      simp only [List.cons_append, List.nil_append, List.cons.injEq] at hp
      rw [← hp.1] at hr
      simp only [gRun] at hr
      have hs := step_frame (ep := 0) (e2 := 1) (j := 0) lsn50 (by decide) zero50_lt (by decide) (gStart 9) ⟨by simp [gStart], by simp [gStart], rfl, fun h => absurd rfl h⟩
      rw [if_neg (by simp), if_neg (by decide)] at hs
      rw [hs] at hr
      simp at hr
    | x :: y :: l, _, hp =>
      have := congrArg List.length hp
      rw [hl] at this
      simp only [List.length_append, List.length_cons] at this ⊢
      omega

set_option maxRecDepth 100000 in
set_option maxHeartbeats 4000000 in
theorem first_law (w : World) : Calls Try.prog 6 #[] w fun e w' => e = .returned (.bool true) ∧ Kept (fun _ => False) w w' := by
  obtain ⟨i3, hi3, hz3, hs3, hb3⟩ := info_parts Try.info3
  obtain ⟨i24, hi24, hz24, hs24, hb24⟩ := info_parts Try.info24
  obtain ⟨i5, hi5, hz5, hs5, hb5⟩ := info_parts Try.info5
  have Hi3 := hide hi3
  have Hz3 := hide hz3
  have Hs3 := hide hs3
  have Hi24 := hide hi24
  have Hz24 := hide hz24
  have Hi5 := hide hi5
  have Hz5 := hide hz5
  have Hs5 := hide hs5
  have Hb5 := hide hb5
  clear hi3 hz3 hs3 hb3 hi24 hz24 hs24 hb24 hi5 hz5 hs5 hb5
  go_enter Try.func6, Try.ntmps6
  go_wp2_with ((with_reducible refine aw_text (d := 10) (d2 := 11) [97, 98, 99] rfl (by decide) (by decide) (by simp) rfl ?_); intro w1 g hg hgs hk1)
  have hb2 := Blk.newA w1 #[Value.int .i64 5, .int .i64 2, .int .i64 1, .int .i64 3, .slice (some ⟨g, 0, none⟩) 3 3] 24
  have hk2 := Kept.alloc (fun _ => False) w1 (.cells #[Value.int .i64 5, .int .i64 2, .int .i64 1, .int .i64 3, .slice (some ⟨g, 0, none⟩) 3 3] 24)
  have hg1 : g < w1.heap.size := World.block_lt_of_cell? w1 _ (hg 0 _ (BV_get [97, 98, 99] 0 (by decide)))
  have hs2 : Src w1 (.slice (some ⟨g, 0, none⟩) 3 3) [97, 98, 99] := cells_src [97, 98, 99] hg (by decide) (by decide)
  generalize w1.alloc (.cells #[Value.int .i64 5, .int .i64 2, .int .i64 1, .int .i64 3, .slice (some ⟨g, 0, none⟩) 3 3] 24) = w2 at hb2 hk2 ⊢
  have HB2 : Hid (Blk w2 w1.heap.size (frV frF (.slice (some ⟨g, 0, none⟩) 3 3)) 24) := hide hb2
  have HS2 : Hid (Src w2 (.slice (some ⟨g, 0, none⟩) 3 3) frF.B) := hide (hs2.kept hk2)
  have HK2 := hide (hk1.trans hk2 (fun _ _ h => h))
  obtain ⟨b1, hb1⟩ : ∃ b, b = w1.heap.size := ⟨_, rfl⟩
  rw [← hb1] at HB2 hg1 ⊢
  clear hb2 hk2 hs2 hg hgs hk1 hb1
  refine (put_at w2 frF _ HS2.out rfl).mono ?_
  rintro e w3 ⟨g3, rfl, hb3, hg3, hk3⟩
  have hpl : (putN frF).length = 64 := putN_length _ (by decide)
  have hs3 := hb3.src (B := putN frF) (cap := 64) (by rw [hpl, List.take_of_length_le (by rw [BV_length, hpl]; exact Nat.le_refl _)]) (putN_lt _ (by decide) (by decide)) (by rw [hpl]; exact Nat.le_refl _)
  rw [hpl] at hs3
  have HB3 := hide (hk3.blk HB2.out (fun h => h))
  have HS3 := hide (HS2.out.kept hk3)
  have HK3 := hide (HK2.out.trans hk3 (fun _ _ h => h))
  have HG3 := hide (get_at w3 _ (putN frF) hs3 (by rw [hpl]; decide))
  rw [getN_put frF rfl (by decide)] at HG3
  clear hb3 hg3 hk3 hpl hs3 HB2 HS2 HK2
  go_wp2_with fail
  refine HG3.out.mono ?_
  rintro e w4 ⟨vg, rfl, hsg, hk4⟩
  obtain ⟨bo, cb, rfl⟩ := hsg.slice
  have HB4 := hide (hk4.blk HB3.out (fun h => h))
  have HS4 := hide (HS3.out.kept hk4)
  have HK4 := hide (HK3.out.trans hk4 (fun _ _ h => h))
  have HSg4 : Hid (Src w4 (.slice bo 3 cb) frF.B) := hide hsg
  have HOf := hide (frV_one frF bo 3 cb)
  have hz : frF.B.length = 3 := rfl
  rw [hz]
  clear hk4 hsg HB3 HS3 HK3 HG3 hz
  simp only []
  go_wp2_with (first
    | ((with_reducible refine aw_alloc (dst := some 3) Hi24.out Hz24.out ?_); intro w5 hb5 hk5 hz5; have Yz5 := hide hz5; clear hz5)
    | ((with_reducible refine aw_store (x := .tmp 3) (M := frV frF (.slice bo 3 cb)) Try.agg24 rfl rfl rfl HOf.out hb5 (by simp [Value.cells]) ?_); intro w6 hw6 hk6 hz6; have Yz6 := hide hz6; clear hz6; rw [put_whole _ _ (by simp [Value.cells, frV])] at hw6)
    | ((with_reducible refine aw_make (n := 50) 1 (by decide) Try.underlying22 Hi5.out Hz5.out rfl Hs5.out rfl rfl (by rw [Hb5.out]; decide) (by unfold maxLen; decide) ?_); intro w7 hw7 hk7 hz7; have Yz7 := hide hz7; clear hz7)
    | fail)
  have hk46 : Kept (fun _ => False) w4 w6 := hk5.trans hk6 (fun i hi h => by omega)
  have hk47 := hk46.trans hk7 (fun _ _ h => h)
  obtain ⟨b3, hb3⟩ : ∃ b, b = w4.heap.size := ⟨_, rfl⟩
  have HBg7 : Hid (Blk w7 b3 (frV frF (.slice bo 3 cb)) 24) := hide (by rw [hb3]; exact hk7.blk hw6 (fun h => h))
  rw [← hb3]
  have HB7 := hide (hk47.blk HB4.out (fun h => h))
  have HS7 := hide (HS4.out.kept hk47)
  have HSg7 := hide (HSg4.out.kept hk47)
  have HK7 := hide (HK4.out.trans hk47 (fun _ _ h => h))
  have hsz : Src w7 (.slice (some ⟨w6.heap.size, 0, none⟩) 50 50) zero50 := by
    have := hw7.src (B := zero50) (cap := 50) (by simp [zero50, BV]) zero50_lt (by decide)
    exact this
  have HSp := hide (spread_at w7 9 1 _ zero50 hsz lsn50 (by decide))
  clear hk5 hk6 hk7 hk46 hk47 hb3 hw6 hw7 hb5 hsz HB4 HS4 HSg4 HK4 Yz5 Yz6 Yz7
  refine HSp.out.mono ?_
  rintro e w8 ⟨v8, rfl, hO8, hk8⟩
  obtain ⟨oa, oc, hv8⟩ := hO8.slice
  rw [spread50] at hv8
  subst hv8
  have HB8 := hide (hk8.blk HB7.out (fun h => h))
  have HBg8 := hide (hk8.blk HBg7.out (fun h => h))
  have HS8 := hide (HS7.out.kept hk8)
  have HSg8 := hide (HSg7.out.kept hk8)
  have HK8 := hide (HK7.out.trans hk8 (fun _ _ h => h))
  have HO8 := hide hO8.src
  clear hO8 hk8 HB7 HBg7 HS7 HSg7 HK7 HSp
  go_wp2_with (first
    | ((with_reducible refine aw_alloc (dst := some 6) Hi3.out Hz3.out ?_); intro w9 hb9 hk9 hz9; have Hz9 := hide hz9; clear hz9)
    | (with_reducible refine stop_store 3 ?_)
    | fail)
  refine hide ?_
  refine aw_store1 (v := .int .i64 0) Hi3.out Hs3.out rfl rfl rfl rfl hb9 (by simp [Value.cells]) ?_
  intro w10 hb10 hk10 hz10
  have hk810 : Kept (fun _ => False) w8 w10 := hk9.trans hk10 (fun i hi h => by omega)
  obtain ⟨bc, hbc⟩ : ∃ b, b = w8.heap.size := ⟨_, rfl⟩
  have HC10 : Hid (Blk w10 bc [.int .i64 ((0 : Nat) : Int)] 3) := hide (by rw [hbc]; exact hb10)
  have hbcw : w.heap.size ≤ bc := by have := HK8.out.size; omega
  rw [← hbc]
  have HB10 := hide (hk810.blk HB8.out (fun h => h))
  have HBg10 := hide (hk810.blk HBg8.out (fun h => h))
  have HS10 := hide (HS8.out.kept hk810)
  have HSg10 := hide (HSg8.out.kept hk810)
  have HK10 := hide (HK8.out.trans hk810 (fun _ _ h => h))
  have HO10 := hide (HO8.out.kept hk810)
  clear hk9 hk10 hk810 hb9 hb10 hz10 Hz9 hbc HB8 HBg8 HS8 HSg8 HK8 HO8
  go_wp2_with fail
  refine (lcut_at w10 _ bc rfl).mono ?_
  rintro e w11 ⟨bl, bp, rfl, hbl, hbp, hk11, hl1, hl2⟩
  have HGa := hide (gather_cut w11 9 _ _ bl bp bc 0 hbl hbp (hk11.blk HC10.out (fun h => h)) (HO10.out.kept hk11) (by rw [spread50]; decide) (by decide) (by decide))
  rw [run50] at HGa
  have HB11 := hide (hk11.blk HB10.out (fun h => h))
  have HBg11 := hide (hk11.blk HBg10.out (fun h => h))
  have HS11 := hide (HS10.out.kept hk11)
  have HSg11 := hide (HSg10.out.kept hk11)
  have HK11 := hide (HK10.out.trans hk11 (fun _ _ h => h))
  have HC11 := hide (hk11.blk HC10.out (fun h => h))
  clear hk11 hbl hbp hl1 hl2 HB10 HBg10 HS10 HSg10 HK10 HO10 HC10
  go_wp2_with fail
  refine HGa.out.mono ?_
  rintro e w12 ⟨v12, pre, rfl, hs12, hk12, hc12, hp1, hp2⟩
  have hpl := pre50 hp1 hp2
  rw [hpl] at hc12
  obtain ⟨xo, xc, rfl⟩ := hs12.slice
  have hnz : ∀ {v : Value} {B : List Nat}, Src w11 v B → Src w12 v B := fun h => h.keptX hk12 (fun k h0 hk e => h.ne3 h0 hk (e ▸ HC11.out))
  have HB12 := hide (hk12.blk HB11.out (HB11.out.ne HC11.out (by decide)))
  have HBg12 := hide (hk12.blk HBg11.out (HBg11.out.ne HC11.out (by decide)))
  have HS12 := hide (hnz HS11.out)
  have HSg12 := hide (hnz HSg11.out)
  have HK12 := hide (HK11.out.trans hk12 (fun i hi h => by omega))
  have c6 : w12.cell? ⟨bc, 0, none⟩ = some (.int .i64 2) := hc12.cell 0
  have HSame := hide (same_at w12 frF frF _ _ HS12.out HSg12.out)
  rw [sameN_self] at HSame
  have c0 : w12.cell? ⟨b1, 0, none⟩ = some (.int .i64 5) := HB12.out.cell 0
  have c1 : w12.cell? ⟨b1, 1, none⟩ = some (.int .i64 2) := HB12.out.cell 1
  have c2 : w12.cell? ⟨b1, 2, none⟩ = some (.int .i64 1) := HB12.out.cell 2
  have c3 : w12.cell? ⟨b1, 3, none⟩ = some (.int .i64 3) := HB12.out.cell 3
  have c4 : w12.cell? ⟨b1, 4, none⟩ = some (.slice (some ⟨g, 0, none⟩) 3 3) := HB12.out.cell 4
  have d0 : w12.cell? ⟨b3, 0, none⟩ = some (.int .i64 5) := HBg12.out.cell 0
  have d1 : w12.cell? ⟨b3, 1, none⟩ = some (.int .i64 2) := HBg12.out.cell 1
  have d2 : w12.cell? ⟨b3, 2, none⟩ = some (.int .i64 1) := HBg12.out.cell 2
  have d3 : w12.cell? ⟨b3, 3, none⟩ = some (.int .i64 3) := HBg12.out.cell 3
  have d4 : w12.cell? ⟨b3, 4, none⟩ = some (.slice bo 3 cb) := HBg12.out.cell 4
  have hz50 : (gEnd (.inr (zero50, 2, 0))).1.length = 50 := rfl
  rw [hz50]
  clear hk12 hc12 hp1 hp2 hpl hs12 hnz HB11 HBg11 HS11 HSg11 HK11 HC11 HGa hz50
  simp only [gEnd]
  go_wp2_with fail
  refine HSame.out.mono ?_
  rintro e w13 ⟨rfl, hk13⟩
  have e0 : w13.cell? ⟨b1, 0, none⟩ = some (.int .i64 5) := (hk13.blk HB12.out (fun h => h)).cell 0
  have e1 : w13.cell? ⟨b1, 1, none⟩ = some (.int .i64 2) := (hk13.blk HB12.out (fun h => h)).cell 1
  have e2 : w13.cell? ⟨b1, 2, none⟩ = some (.int .i64 1) := (hk13.blk HB12.out (fun h => h)).cell 2
  have e3 : w13.cell? ⟨b1, 3, none⟩ = some (.int .i64 3) := (hk13.blk HB12.out (fun h => h)).cell 3
  have e4 : w13.cell? ⟨b1, 4, none⟩ = some (.slice (some ⟨g, 0, none⟩) 3 3) := (hk13.blk HB12.out (fun h => h)).cell 4
  have e6 : w13.cell? ⟨bc, 0, none⟩ = some (.int .i64 2) := by
    have hc : Cells w12 bc 0 [.int .i64 2] := by intro j v hj; match j, hj with | 0, hj => simp at hj; subst hj; exact c6
    exact hk13.cells hc (fun h => h) 0 _ rfl
  have HK13 := hide (HK12.out.trans hk13 (fun _ _ h => h))
  have HS13 := hide (HS12.out.kept hk13)
  clear c0 c1 c2 c3 c4 d0 d1 d2 d3 d4 c6 hk13 HB12 HBg12 HS12 HSg12 HK12 HSame
  go_wp2_with fail
  have hSec := sectors_at w13 41 (by decide)
  rw [show sectN 41 = 2 from rfl] at hSec
  refine hSec.mono ?_
  rintro e w14 ⟨rfl, rfl⟩
  clear hSec
  go_wp2_with fail
  have hR := right_at w13 frF (.slice (some ⟨g, 0, none⟩) 3 3) HS13.out.slice
  rw [show rightN frF = true from rfl] at hR
  refine hR.mono ?_
  rintro e w15 ⟨rfl, hk15⟩
  go_wp2
  go_ret
  exact ⟨rfl, HK13.out.trans hk15 (fun _ _ h => h)⟩
end Go.Proofs.Ytjkggmjcaedggaa
