/-
  Get.
-/
import Derived.Test.YtapoagpkjngjpaaFrRead
namespace Go.Proofs.Ytapoagpkjngjpaa
open Go.RowKit Go.Shelf
set_option linter.unusedSimpArgs false
set_option linter.unusedVariables false
set_option maxRecDepth 100000

theorem built24_0 : Try.prog.built 51 [] = some #[.int .i64 0, .int .i64 0, .int .i64 0, .int .i64 0, .slice none 0 0] := by rfl
theorem r_build24_0 {ρ : Operand → Value} {w : World} {dst : Option Tmp} {ty : TypeId} {pos : String} {aft : Array Edge} {gd : Option (Nat × Bool)} :
    (execOp ρ ⟨dst, .build 51 #[], ty, pos, aft, gd⟩).run Try.prog w = .ok (.value (.agg (frV fr0 (.slice none 0 0)).toArray)) w := by
  have hr := run_build (P := Try.prog) w 51 #[] _ (by simpa using built24_0)
  simp [execOp, hr, frV, fr0]
theorem Src.hi {w : World} {sb so len cap : Nat} {b : List Nat} (h : Src w (.slice (some ⟨sb, so, none⟩) len cap) b) (n : Nat) (hn : n ≤ len) : Src w (.slice (some ⟨sb, so, none⟩) n cap) (b.take n) := by
  obtain ⟨bo, c, e, h1, h2, h3, h4⟩ := h
  cases e
  have hl : (b.take n).length = n := by simp; omega
  refine ⟨some ⟨sb, so, none⟩, cap, by rw [hl], by omega, fun x hx => h2 x (List.mem_of_mem_take hx), fun hp => ?_, fun h => by cases h⟩
  obtain ⟨sb', so', e, hc⟩ := h3 (by omega)
  cases e
  refine ⟨sb, so, rfl, ?_⟩
  have := hc.part 0 n
  rw [List.drop_zero, Nat.add_zero, ← BV_take] at this
  exact this

theorem getN_a {b : List Nat} (h : b.length ≠ 64) : getN b = (fr0, 20) := by unfold getN; rw [if_pos (.inl h)]
theorem getN_b {b : List Nat} (h : (scanNum b 0 2).1 ≠ 46878) : getN b = (fr0, 20) := by unfold getN; rw [if_pos (.inr h)]
theorem getN_c {b : List Nat} (h : b.length = 64) (h2 : (scanNum b 0 2).1 = 46878) (h3 : goodN b = false) : getN b = (fr0, 21) := by unfold getN; rw [if_neg (by simp [h, h2]), if_pos h3]
theorem getN_d {b : List Nat} (h : b.length = 64) (h2 : (scanNum b 0 2).1 = 46878) (h3 : goodN b = true) (h4 : (readN (b.take 60)).2 = false) : getN b = (fr0, 20) := by unfold getN; rw [if_neg (by simp [h, h2]), if_neg (by simp [h3]), if_neg (by simp [h4])]
theorem getN_e {b : List Nat} (h : b.length = 64) (h2 : (scanNum b 0 2).1 = 46878) (h3 : goodN b = true) (h4 : (readN (b.take 60)).2 = true) : getN b = ((readN (b.take 60)).1, 0) := by unfold getN; rw [if_neg (by simp [h, h2]), if_neg (by simp [h3]), if_pos h4]

set_option maxRecDepth 100000 in
set_option maxHeartbeats 4000000 in
theorem get_at (w : World) (v : Value) (b : List Nat) (hs : Src w v b) (hl : b.length ≤ 90000000) :
    Calls Try.prog 21 #[v] w fun e w' => ∃ vb, e = .returned (.tuple #[frAgg (getN b).1 vb, .int .i64 (getN b).2]) ∧ Src w' vb (getN b).1.B ∧ Kept (fun _ => False) w w' := by
  obtain ⟨i24, hi24, hz24, hs24, hb24⟩ := info_parts Try.info51
  have Hi := hide hi24
  have Hz := hide hz24
  have HO := hide (frV_one fr0 none 0 0)
  clear hi24 hz24 hs24 hb24
  by_cases h64 : b.length = 64
  case neg =>
    rw [getN_a h64]
    obtain ⟨bo, cap, rfl⟩ := hs.slice
    have hlen : ((b.length : Int) != 64) = true := by simp; omega
    obtain ⟨len, hle⟩ : ∃ len, len = b.length := ⟨_, rfl⟩
    rw [← hle] at hlen ⊢
    clear hs hl h64 hle
    go_enter Try.func21, Try.ntmps21
    go_wp2_with (first
      | ((with_reducible refine aw_alloc (dst := some 2) Hi.out Hz.out ?_); intro w1 hb1 hk1 hz1)
      | ((with_reducible refine wpList_run rfl r_build24_0 ?_))
      | ((with_reducible refine aw_store (x := .tmp 2) (M := frV fr0 (.slice none 0 0)) Try.agg51 rfl rfl rfl HO.out hb1 (by simp [Value.cells]) ?_); intro w2 hw2 hk2 hz2; rw [put_whole _ _ (by simp [Value.cells, frV])] at hw2)
      | fail)
    refine bodyPost_ret (results_cell2 (t := 2) (u := 3) (ty := 51) rfl Try.agg51 rfl hw2 rfl) rfl ?_
    exact ⟨_, rfl, Src.nil _, hk1.trans hk2 (fun i hi h => by omega)⟩
  case pos =>
  obtain ⟨bo, cap, rfl, hcap, hbyte, hsrc, hnil⟩ := hs
  obtain ⟨sb, so, rfl, hcs⟩ := hsrc (by omega)
  have hS : Src w (.slice (some ⟨sb, so, none⟩) 64 cap) b := ⟨_, cap, by rw [h64], hcap, hbyte, fun _ => ⟨sb, so, rfl, hcs⟩, fun h => by cases h⟩
  rw [h64] at hcap ⊢
  have HS := hide hS
  have H64 := hide h64
  have hl9 : Hid (b.length ≤ 90000000) := hide hl
  obtain ⟨n0, B0, E0, q0⟩ : ∃ n B E, scanNum b 0 2 = (n, B, E) := ⟨_, _, _, rfl⟩
  have HQ0 := hide q0
  have hn0 : (scanNum b 0 2).1 = n0 := by rw [q0]
  have HN0 := hide hn0
  clear hbyte hsrc hnil hcs hS hl h64 q0 hn0
  by_cases h46 : n0 = 46878
  case neg =>
    rw [getN_b (by rw [HN0.out]; exact h46)]
    have hne : (n0 != 46878) = true := by simpa using h46
    clear h46 HN0
    go_enter Try.func21, Try.ntmps21
    go_wp2_with (first
      | ((with_reducible refine aw_alloc (dst := some 2) Hi.out Hz.out ?_); intro w1 hb1 hk1 hz1)
      | fail)
    refine (new_at w1 _ b (HS.out.kept hk1) hl9.out).mono ?_
    rintro e w2 ⟨s, v2, rfl, hs2, hk2, hsz2⟩
    have HS2 := hide hs2
    clear hs2
    go_wp2_with fail
    refine (snum_q HS2.out hl9.out 2 HQ0.out).mono ?_
    rintro e w3 ⟨v3, rfl, hs3, hk3⟩
    have hb3 := hk3.blk (hk2.blk hb1 (fun h => h)) (by omega)
    have HK3 := hide ((hk1.trans hk2 (fun _ _ h => h)).trans hk3 (fun i hi h => by omega))
    clear hs3 hk3 hk2 hsz2 HS2 hb1 hk1 hz1
    go_wp2_with (first
      | ((with_reducible refine wpList_run rfl r_build24_0 ?_))
      | ((with_reducible refine aw_store (x := .tmp 2) (M := frV fr0 (.slice none 0 0)) Try.agg51 rfl rfl rfl HO.out hb3 (by simp [Value.cells]) ?_); intro w4 hw4 hk4 hz4; rw [put_whole _ _ (by simp [Value.cells, frV])] at hw4)
      | fail)
    refine bodyPost_ret (results_cell2 (t := 2) (u := 3) (ty := 51) rfl Try.agg51 rfl hw4 rfl) rfl ?_
    exact ⟨_, rfl, Src.nil _, HK3.out.trans hk4 (fun i hi h => by omega)⟩
  case pos =>
  subst h46
  cases hg : goodN b with
  | false =>
    rw [getN_c H64.out HN0.out hg]
    have HG : Hid (goodN b = false) := hide hg
    clear hg
    go_enter Try.func21, Try.ntmps21
    go_wp2_with (first
      | ((with_reducible refine aw_alloc (dst := some 2) Hi.out Hz.out ?_); intro w1 hb1 hk1 hz1)
      | fail)
    refine (new_at w1 _ b (HS.out.kept hk1) hl9.out).mono ?_
    rintro e w2 ⟨s, v2, rfl, hs2, hk2, hsz2⟩
    have HS2 := hide hs2
    clear hs2
    go_wp2_with fail
    refine (snum_q HS2.out hl9.out 2 HQ0.out).mono ?_
    rintro e w3 ⟨v3, rfl, hs3, hk3⟩
    have hb3 := hk3.blk (hk2.blk hb1 (fun h => h)) (by omega)
    have HK3 := hide ((hk1.trans hk2 (fun _ _ h => h)).trans hk3 (fun i hi h => by omega))
    clear hs3 hk3 hk2 hsz2 HS2 hb1 hk1 hz1
    go_wp2_with fail
    have hG := good_at w3 _ b (HS.out.kept HK3.out) (by rw [H64.out]; decide)
    rw [HG.out] at hG
    refine hG.mono ?_
    rintro e w4 ⟨rfl, hk4⟩
    have hb4 := hk4.blk hb3 (fun h => h)
    have HK4 := hide (HK3.out.trans hk4 (fun _ _ h => h))
    clear hG hk4 hb3 HK3
    go_wp2_with (first
      | ((with_reducible refine wpList_run rfl r_build24_0 ?_))
      | ((with_reducible refine aw_store (x := .tmp 2) (M := frV fr0 (.slice none 0 0)) Try.agg51 rfl rfl rfl HO.out hb4 (by simp [Value.cells]) ?_); intro w5 hw5 hk5 hz5; rw [put_whole _ _ (by simp [Value.cells, frV])] at hw5)
      | fail)
    refine bodyPost_ret (results_cell2 (t := 2) (u := 3) (ty := 51) rfl Try.agg51 rfl hw5 rfl) rfl ?_
    exact ⟨_, rfl, Src.nil _, HK4.out.trans hk5 (fun i hi h => by omega)⟩
  | true =>
  obtain ⟨f, hf⟩ : ∃ f, f = (readN (b.take 60)).1 := ⟨_, rfl⟩
  obtain ⟨g, hgd⟩ : ∃ g, g = (readN (b.take 60)).2 := ⟨_, rfl⟩
  have Hget : Hid (getN b = if g = true then (f, 0) else (fr0, 20)) := hide (by
    cases g with
    | true => rw [getN_e H64.out HN0.out hg hgd.symm, ← hf]; rfl
    | false => rw [getN_d H64.out HN0.out hg hgd.symm]; rfl)
  have HG : Hid (goodN b = true) := hide hg
  have Hrd : Hid (∀ w3, Src w3 (.slice (some ⟨sb, so, none⟩) 60 cap) (b.take 60) → Calls Try.prog 44 #[.slice (some ⟨sb, so, none⟩) 60 cap] w3 fun e w' => ∃ vb, e = .returned (.tuple #[frAgg f vb, .bool g]) ∧ Src w' vb f.B ∧ Kept (fun _ => False) w3 w') := hide (fun w3 h3 => by
    rw [hf, hgd]
    exact read_at w3 _ _ h3 (by rw [List.length_take]; have := hl9.out; omega))
  clear hg hf hgd
  go_enter Try.func21, Try.ntmps21
  go_wp2_with (first
    | ((with_reducible refine aw_alloc (dst := some 2) Hi.out Hz.out ?_); intro w1 hb1 hk1 hz1)
    | fail)
  refine (new_at w1 _ b (HS.out.kept hk1) hl9.out).mono ?_
  rintro e w2 ⟨s, v2, rfl, hs2, hk2, hsz2⟩
  have HS2 := hide hs2
  clear hs2
  go_wp2_with fail
  refine (snum_q HS2.out hl9.out 2 HQ0.out).mono ?_
  rintro e w3 ⟨v3, rfl, hs3, hk3⟩
  have hb3 := hk3.blk (hk2.blk hb1 (fun h => h)) (by omega)
  have HK3 := hide ((hk1.trans hk2 (fun _ _ h => h)).trans hk3 (fun i hi h => by omega))
  clear hs3 hk3 hk2 hsz2 HS2 hb1 hk1 hz1
  go_wp2_with fail
  have hG := good_at w3 _ b (HS.out.kept HK3.out) (by rw [H64.out]; decide)
  rw [HG.out] at hG
  refine hG.mono ?_
  rintro e w4 ⟨rfl, hk4⟩
  have hb4 := hk4.blk hb3 (fun h => h)
  have HK4 := hide (HK3.out.trans hk4 (fun _ _ h => h))
  clear hG hk4 hb3 HK3
  go_wp2_with (with_reducible refine stop_slice 24 ?_)
  refine hide ?_
  refine wpList_run rfl (r_hi22 60 rfl rfl (by omega)) ?_
  have HR := hide (Hrd.out w4 ((HS.out.kept HK4.out).hi 60 (by decide)))
  go_wp2_with fail
  refine HR.out.mono ?_
  rintro e w5 ⟨vb, rfl, hsv, hk5⟩
  obtain ⟨bo, cb, rfl⟩ := hsv.slice
  have hb5 := hk5.blk hb4 (fun h => h)
  have HK5 := hide (HK4.out.trans hk5 (fun _ _ h => h))
  have HSv := hide hsv
  have hr5 : w.heap.size < w5.heap.size := hb5.lt
  obtain ⟨len, hlen⟩ : ∃ len, len = f.B.length := ⟨_, rfl⟩
  rw [← hlen] at HSv ⊢
  have HOf := hide (frV_one f bo len cb)
  clear hb4 hk5 hsv HR Hrd HK4 hlen
  cases g with
  | false =>
    have Hget2 : Hid (getN b = (fr0, 20)) := hide (by rw [Hget.out]; rfl)
    go_wp2_with (first
      | ((with_reducible refine aw_alloc (dst := some 4) Hi.out Hz.out ?_); intro w6 hb6 hk6 hz6)
      | ((with_reducible refine aw_store (x := .tmp 4) (M := frV f (.slice bo len cb)) Try.agg51 rfl rfl rfl HOf.out hb6 (by simp [Value.cells]) ?_); intro w7 hw7 hk7 hz7; rw [put_whole _ _ (by simp [Value.cells, frV])] at hw7; have hb7 := hk7.blk (hk6.blk hb5 (fun h => h)) (by omega))
      | ((with_reducible refine wpList_run rfl r_build24_0 ?_))
      | ((with_reducible refine aw_store (x := .tmp 2) (M := frV fr0 (.slice none 0 0)) Try.agg51 rfl rfl rfl HO.out hb7 (by simp [Value.cells]) ?_); intro w8 hw8 hk8 hz8; rw [put_whole _ _ (by simp [Value.cells, frV])] at hw8)
      | fail)
    refine bodyPost_ret (results_cell2 (t := 2) (u := 3) (ty := 51) rfl Try.agg51 rfl hw8 rfl) rfl ?_
    rw [Hget2.out]
    exact ⟨_, rfl, Src.nil _, ((HK5.out.trans hk6 (fun _ _ h => h)).trans hk7 (fun i hi h => by omega)).trans hk8 (fun i hi h => by omega)⟩
  | true =>
    have Hget2 : Hid (getN b = (f, 0)) := hide (by rw [Hget.out]; rfl)
    go_wp2_with (first
      | ((with_reducible refine aw_alloc (dst := some 4) Hi.out Hz.out ?_); intro w6 hb6 hk6 hz6)
      | ((with_reducible refine aw_store (x := .tmp 4) (M := frV f (.slice bo len cb)) Try.agg51 rfl rfl rfl HOf.out hb6 (by simp [Value.cells]) ?_); intro w7 hw7 hk7 hz7; rw [put_whole _ _ (by simp [Value.cells, frV])] at hw7; have hb7 := hk7.blk (hk6.blk hb5 (fun h => h)) (by omega))
      | (with_reducible refine aw_load (x := .tmp 4) (M := frV f (.slice bo len cb)) Try.agg51 rfl hw7 (by simp [frV]) rfl ?_)
      | ((with_reducible refine aw_store (x := .tmp 2) (M := frV f (.slice bo len cb)) Try.agg51 rfl rfl rfl HOf.out hb7 (by simp [Value.cells]) ?_); intro w8 hw8 hk8 hz8; rw [put_whole _ _ (by simp [Value.cells, frV])] at hw8)
      | fail)
    refine bodyPost_ret (results_cell2 (t := 2) (u := 3) (ty := 51) rfl Try.agg51 rfl hw8 rfl) rfl ?_
    rw [Hget2.out]
    refine ⟨_, rfl, ?_, ((HK5.out.trans hk6 (fun _ _ h => h)).trans hk7 (fun i hi h => by omega)).trans hk8 (fun i hi h => by omega)⟩
    have hk67 : Kept (fun _ => False) w5 w7 := hk6.trans hk7 (fun i hi h => by omega)
    exact (HSv.out.kept hk67).keptBut hk8 (fun q hq => nobyte24 (f := fr0) (bo := none) (n := 0) (k := 0) hb7 q hq)
end Go.Proofs.Ytapoagpkjngjpaa
