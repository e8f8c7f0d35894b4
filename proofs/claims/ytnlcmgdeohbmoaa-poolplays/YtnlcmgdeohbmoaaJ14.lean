/-
  The iterators: slices.All, order.tell, (*Map).All.
-/
import Derived.Test.YtnlcmgdeohbmoaaJ13
import Derived.Test.YtnlcmgdeohbmoaaJ07
namespace Go.Proofs.Ytnlcmgdeohbmoaa
open Go.RowKit Go.Shelf
set_option linter.unusedSimpArgs false
set_option linter.unusedVariables false
attribute [local go_sem] Oper.semAt_some
theorem stopi_load {F : Fence} {n : Nat} {P : Program} {ops : Array Oper} {Q : Exit → Act → World → Prop} {a : Act} {w : World} {rest : List Oper} {dst : Option Tmp} {ty : TypeId} {pos : String} {aft : Array Edge} {x : Operand} (t : TypeId) (h : Hid (wpListIn F n P ops Q (⟨dst, .load t x, ty, pos, aft, none⟩ :: rest) a w)) : wpListIn F n P ops Q (⟨dst, .load t x, ty, pos, aft, none⟩ :: rest) a w := h.out

/-- v is a slice that holds the entries l. -/
def SrcEP (W : World) (v : Value) (l : List EntP) : Prop := ∃ ao cap, v = .slice ao l.length cap ∧ l.length ≤ cap ∧ (0 < l.length → ∃ g off, ao = some ⟨g, off, none⟩ ∧ Cells W g off (encP l))
theorem zip_succ {α : Type} (l : List α) (k : Nat) (h : k < l.length) : l.zipIdx.take (k + 1) = l.zipIdx.take k ++ [(l[k], k)] := by
  rw [List.take_succ_eq_append_getElem (by simpa using h)]
  simp
theorem zip_split {α : Type} (l : List α) (k : Nat) (h : k < l.length) : l.zipIdx = l.zipIdx.take k ++ (l[k], k) :: l.zipIdx.drop (k + 1) := by
  have h1 : k < l.zipIdx.length := by simpa using h
  have h2 := List.take_append_drop k l.zipIdx
  rw [List.drop_eq_getElem_cons h1] at h2
  simpa using h2.symm
theorem zip_fst {α : Type} (l : List α) : l.zipIdx.map (·.1) = l := by
  apply List.ext_getElem
  · simp
  · intro i h1 h2
    simp
def enc2P (x : EntP × Nat) : Array Value := #[.int .i64 (x.2 : Nat), .agg (cellsP x.1).toArray]

set_option maxRecDepth 100000 in
set_option maxHeartbeats 2000000 in
theorem sall1P (W : World) (Bs : Nat) (v : Value) (l : List EntP) (hb : Blk W Bs [v] 110) (hs : SrcEP W v l) (hl : l.length ≤ 1000000) :
    SeqAt Try.prog 73 #[.pointer (some ⟨Bs, 0, none⟩)] enc2P l.zipIdx (fun k => k = Bs ∨ vX v k) W := by
  intro yv J Jx F0 hyv hJ hJx hF0 hX hY h0
  obtain ⟨ao, cap, rfl, hcap, hsrc⟩ := hs
  obtain ⟨i0, hi0, hz0, hs0, hb0⟩ := info_parts Try.info109
  have Hi0 := hide hi0
  have Hz0 := hide hz0
  have HJ := hide hJ
  have HJx := hide hJx
  have HY := hide hY
  have HX := hide hX
  have HSrc := hide hsrc
  have H0 := hide h0
  have c : W.cell? ⟨Bs, 0, none⟩ = some (.slice ao l.length cap) := hb.cell 0
  clear hi0 hz0 hs0 hb0 hJ hJx hY hX hsrc h0 hyv
  show Calls Try.prog 73 #[yv, .pointer (some ⟨Bs, 0, none⟩)] W (Ended J Jx l.zipIdx)
  refine (callsIn_wide (n := 4)).1 (callsIn_of_wp Try.func73 rfl trivial ?_ rfl)
  simp only [Try.ntmps73, List.size_toArray, List.length_cons, List.length_nil, Nat.reduceAdd, Nat.reduceSub, Array.replicate_succ, Array.replicate_zero, List.push_toArray, List.append_toArray, List.nil_append, List.cons_append]
  gi_wp2
  gi_loopw [7] (fun i wr => ∃ (k : Nat) (F : Nat → Prop), i = .int .i64 k ∧ k ≤ l.length ∧ Hid (J (l.zipIdx.take k) F wr) ∧ Hid (∀ g off, ao = some ⟨g, off, none⟩ → 0 < l.length → ¬ F g ∧ Cells wr g off (encP l)))
    (fun i _ => l.length - (intOf i).toNat)
  case atStart => exact ⟨0, F0, rfl, Nat.zero_le _, hide H0.out, hide (fun g off he h => by
    obtain ⟨g', off', he', hc⟩ := HSrc.out h
    rw [he] at he'
    cases he'
    exact ⟨HX.out g (.inr ⟨off, _, _, by rw [he]⟩), hc⟩)⟩
  case round =>
    obtain ⟨k, F, rfl, hk, hJk, hsk⟩ := hrel
    clear c
    by_cases hlt : k < l.length
    · obtain ⟨g, off, rfl, _⟩ := HSrc.out (by omega)
      obtain ⟨hFg, hcs⟩ := hsk.out g off rfl (by omega)
      have hent : Cells wr g (off + k * 65) (cellsP l[k]) := by
        have h := hcs.part (k * 65) 65
        rwa [encP_ent l k hlt] at h
      have Hzs := hide (zip_succ l k hlt)
      have Hzp := hide (zip_split l k hlt)
      have HCs := hide hcs
      obtain ⟨x, hx⟩ : ∃ x, x = l[k] := ⟨_, rfl⟩
      rw [← hx] at hent Hzs Hzp
      have HEnt := hide hent
      have Hx := hide hx
      clear hx hcs hsk hent
      obtain ⟨N, hN⟩ : ∃ N, N = cellsP x := ⟨_, rfl⟩
      have HNl : Hid (N.length = 65) := hide (by rw [hN, cellsP_length])
      have HN1 : Hid (∀ u ∈ N, u.oneCell' = true) := hide (by rw [hN]; exact cellsP_one x)
      rw [← hN] at HEnt
      have HN := hide hN
      clear hN
      gi_wp2_with (with_reducible refine stopi_load 109 ?_)
      refine hide ?_
      refine wpListIn_run rfl rfl (fun _ => by simp) (run_load_cells Try.agg109 rfl HNl.out HEnt.out) ?_
      try simp only [put_lit, List.set_cons_succ, List.set_cons_zero]
      gi_wp2_with (first
        | ((with_reducible refine ai_alloc Hi0.out Hz0.out ?_); intro w2 hw2 hk2 hz2; have Hz2 := hide hz2; have HZl : Hid ((Value.agg (.int .i64 0 :: List.replicate 64 (.int .u8 0)).toArray).cells.toList.length = 65) := hide rfl; clear hz2)
        | ((with_reducible refine ai_store (M := N) Try.agg109 rfl rfl HNl.out HN1.out hw2 (by rw [HZl.out]; omega) ?_); intro w3 hw3 hk3 hz3; have Hz3 := hide hz3; have HW3 := hide hw3; rw [put_whole _ _ (by rw [HZl.out, HNl.out])] at HW3; clear hz3 hw3)
        | ((with_reducible refine ai_load (M := N) Try.agg109 rfl HW3.out (by rw [HNl.out]; omega) (List.take_of_length_le (by rw [List.drop_zero, HNl.out]; omega)) ?_))
        | (with_reducible refine stopi_val ?_))
      refine hide ?_
      have hk13 : Kept (fun _ => False) wr w3 := hk2.trans hk3 (fun i hi h => by omega)
      have hyc := HY.out _ (x, k) _ F w3 Hzp.out (ownU_kept (HJ.out.own _ _) hk13 hJk.out)
      try simp only [put_lit, List.set_cons_succ, List.set_cons_zero]
      refine ai_yc (yv := yv) (vy := .int .i64 (k : Nat)) (vz := .agg N.toArray) rfl rfl rfl (by rw [HN.out]; exact hyc) ?_
      rintro e w4 ⟨F', hcase, hk4, hF'⟩
      have hgl : g < w3.heap.size := by
        have h := (hk13.cells HCs.out (fun h => h)) _ _ (encP_key l k hlt)
        exact World.block_lt_of_cell? w3 _ h
      have HS4 : Hid (∀ g' off', some (⟨g, off, none⟩ : Addr) = some ⟨g', off', none⟩ → 0 < l.length → ¬ F' g' ∧ Cells w4 g' off' (encP l)) := hide (fun g' off' he h => by
        cases he
        refine ⟨fun hg => ?_, hk4.cells (hk13.cells HCs.out (fun h => h)) hFg⟩
        rcases hF' g hg with h | h
        · exact hFg h
        · omega)
      rw [← Hzs.out] at hcase
      rcases hcase with ⟨rfl, hJ4⟩ | ⟨rfl, hJ4⟩
      · have HJ4 := hide hJ4
        clear hJ4 hyc hk13 hk4 hw2 hk2 hk3 hF' HJ HY HX HSrc H0 hJk
        refine ⟨_, rfl, ?_⟩
        try simp only [put_lit, List.set_cons_succ, List.set_cons_zero]
        gi_wp2
        go_roundw
        case rel => exact ⟨k + 1, F', by simp, by omega, HJ4, HS4⟩
        case measure => simp [intOf]; omega
      · have HJ4 := hide hJ4
        have Hpre : Hid (∃ post, l.zipIdx = l.zipIdx.take (k + 1) ++ post) := hide ⟨_, (List.take_append_drop _ _).symm⟩
        clear hJ4 hyc hk13 hk4 hw2 hk2 hk3 hF' HJ HY HX HSrc H0 hJk
        refine ⟨_, rfl, ?_⟩
        try simp only [put_lit, List.set_cons_succ, List.set_cons_zero]
        gi_wp2
        refine bodyPost_ret (results_none rfl _ _ _) rfl ?_
        exact ⟨⟨_, rfl⟩, .inr ⟨_, F', Hpre.out, HJ4.out⟩⟩
    · obtain rfl : k = l.length := by omega
      gi_wp2
      go_end0
      refine ⟨⟨_, rfl⟩, .inl ⟨F, ?_⟩⟩
      have := hJk.out
      rwa [List.take_of_length_le (by simp)] at this

/-- The word of tell's loop. -/
def TellIP (J : List EntP → (Nat → Prop) → World → Prop) (By : Nat) (yv : Value) (pre : List (EntP × Nat)) (F : Nat → Prop) (W : World) : Prop := J (pre.map (·.1)) F W ∧ Blk W By [yv] 86 ∧ ¬ F By

set_option maxRecDepth 100000 in
set_option maxHeartbeats 4000000 in
theorem tell_atP (W : World) (gf : Nat) (lb : Array Value) (xs : List (EntP × Nat)) (X : Nat → Prop) (eg : ∀ args w, (callFunc gf args).run Try.prog w = .ok (.enter gf args) w) (hs : ∀ W', Kept (fun _ => False) W W' → SeqAt Try.prog gf lb enc2P xs X W') (hXl : ∀ k, X k → k < W.heap.size)
    (yv : Value) (J Jx : List EntP → (Nat → Prop) → World → Prop) (F0 : Nat → Prop) (hyv : yv.cells = #[yv]) (hJ : FootOk W.heap.size J) (hJx : ∀ pre F, OwnFrom W.heap.size (fun (_ : Unit) W => Jx pre F W)) (hF0 : ∀ k, F0 k → k < W.heap.size) (hX : ∀ k, X k → ¬ F0 k)
    (hY : ∀ pre x post F W1, xs.map (·.1) = pre ++ x :: post → J pre F W1 → YC Try.prog yv #[.int .i64 x.1, .agg (BV x.2.B).toArray] W1 (Yielded J Jx (pre ++ [x]) F W1)) (h0 : J [] F0 W) :
    Calls Try.prog 56 #[.func (.func gf) #[] lb, yv] W (Ended J Jx (xs.map (·.1))) := by
  obtain ⟨i0, hi0, hz0, hs0, hb0⟩ := info_parts Try.info109
  have Hi0 := hide hi0
  have Hz0 := hide hz0
  have HJ := hide hJ
  have HJx := hide hJx
  have HY := hide hY
  have HX := hide hX
  have H0 := hide h0
  have HS := hide hs
  have HEg := hide eg
  have HYv := hide hyv
  clear hi0 hz0 hs0 hb0 hJ hJx hY hX h0 hs eg hyv
  refine (callsIn_wide (n := 4)).1 (callsIn_of_wp_marks Try.func56 rfl trivial (wpIn_wide.2 ?_) rfl)
  simp only [Try.ntmps56, List.size_toArray, List.length_cons, List.length_nil, Nat.reduceAdd, Nat.reduceSub, Array.replicate_succ, Array.replicate_zero, List.push_toArray, List.append_toArray, List.nil_append, List.cons_append]
  go_wp2_with ((with_reducible refine aw_box (t := 86) (v := yv) rfl ?_); intro w1 hb1 hk1 hz1; have Hz1 := hide hz1; clear hz1)
  have hb1' : Blk w1 W.heap.size [yv] 86 := by rw [HYv.out] at hb1; exact hb1
  have hW1 : W.heap.size < w1.heap.size := hb1'.lt
  clear hb1
  refine rangeF (gf := gf) (lb := lb) rfl HEg.out (encs := enc2P) (xs := xs) (X := X) (fun W' hk => HS.out W' (hk1.trans hk (fun _ _ h => h))) (fun _ => rfl)
    (TellIP J W.heap.size yv) (fun pre F W => Jx (pre.map (·.1)) F W) ⟨?own, ?cells⟩ (fun pre F => ownU_le (HJx.out _ F) (by omega)) F0 (fun k hk => by have := hF0 k hk; omega) (fun k hk => ⟨by have := hXl k hk; omega, HX.out k hk⟩)
    ⟨ownU_kept (HJ.out.own _ _) hk1 H0.out, hb1', fun h => by have := hF0 _ h; omega⟩
    (fun x a' W' => ∃ Bx, Blk W' Bx (cellsP x.1) 109 ∧ a' = { tmps := #[.func (.func gf) #[] lb, yv, undef, .pointer (some ⟨W.heap.size, 0, none⟩), undef, .pointer (some ⟨Bx, 0, none⟩), .func (.func gf) #[] lb, .int .i64 (x.2 : Nat), .agg (cellsP x.1).toArray, undef, undef, undef, undef, undef, undef, undef], defers := [] })
    ?ax ?assign ?body ?done ?stop
  case own =>
    rintro pre F _ A B row ⟨h1, h2, h3⟩ hg hr
    refine ⟨HJ.out.own _ F () A B row h1 hg (fun r e => ⟨by have := (hr r e).1; omega, (hr r e).2⟩), (Kept.of_grown hg).blk h2 (fun e => ?_), h3⟩
    have := (hr _ e).1
    omega
  case cells =>
    rintro pre F A ⟨h1, h2, h3⟩ k hk hB
    exact HJ.out.cells _ F A h1 k hk (by omega)
  case ax =>
    rintro x a' _ A B row ⟨Bx, hx, he⟩ hg hr
    refine ⟨Bx, (Kept.of_grown hg).blk hx (fun e => ?_), he⟩
    obtain ⟨_, o, h3, h4⟩ := hr Bx e
    unfold Blk at hx
    rw [hx] at h3
    cases h3
    simp [Obj.isCells] at h4
  case assign =>
    intro l n pre x F A K hI hK
    have HKK := hide hK
    clear hK
    obtain ⟨y, i⟩ := x
    obtain ⟨N, hN⟩ : ∃ N, N = cellsP y := ⟨_, rfl⟩
    have HNl : Hid (N.length = 65) := hide (by rw [hN, cellsP_length])
    have HN1 : Hid (∀ u ∈ N, u.oneCell' = true) := hide (by rw [hN]; exact cellsP_one y)
    simp only [enc2P]
    rw [← hN] at HKK ⊢
    clear hN
    gi_wp2_with (first
      | ((with_reducible refine ai_alloc Hi0.out Hz0.out ?_); intro w3 hw3 hk3 hz3; have Hz3 := hide hz3; have HZl : Hid ((Value.agg (.int .i64 0 :: List.replicate 64 (.int .u8 0)).toArray).cells.toList.length = 65) := hide rfl; clear hz3)
      | (with_reducible refine stopi_store 109 ?_))
    refine hide ?_
    refine ai_store (M := N) Try.agg109 rfl rfl HNl.out HN1.out hw3 (by rw [HZl.out]; omega) ?_
    intro w4 hw4 hk4 hz4
    have Hz4 := hide hz4
    clear hz4
    gi_wp2
    rw [put_whole _ _ (by rw [HZl.out, HNl.out])] at hw4
    exact HKK.out _ w4 (hk3.trans hk4 (fun i hi h => by omega)) ⟨_, hw4, rfl⟩
  case body =>
    rintro l n pre x post F a' A hxs ⟨hJA, hBy, hFy⟩ ⟨Bx, hBx, rfl⟩
    obtain ⟨⟨k, v⟩, i⟩ := x
    have hyc := HY.out (pre.map (·.1)) (k, v) (post.map (·.1)) F A (by rw [hxs]; simp) hJA
    have c0 : A.cell? ⟨W.heap.size, 0, none⟩ = some yv := hBy.cell 0
    have c1 : A.cell? ⟨Bx, 0, none⟩ = some (Value.int .i64 (k)) := hBx.cell 0
    have HBx := hide hBx
    have HM : Hid (((cellsP (k, v)).drop 1).take 64 = BV v.B) := hide (by
      have h := BVk_length v
      show List.take 64 (BV v.B) = BV v.B
      exact List.take_of_length_le (by omega))
    have HL : Hid (1 + 64 ≤ (cellsP (k, v)).length) := hide (by rw [cellsP_length]; omega)
    have HJA := hide hJA
    have HYc := hide hyc
    have Hxs := hide hxs
    have HBy := hide hBy
    clear hJA hyc hxs hBy hBx
    have HM2 := HM
    obtain ⟨N, hN⟩ : ∃ N, N = cellsP (k, v) := ⟨_, rfl⟩
    simp only
    rw [← hN] at HBx HM HL ⊢
    obtain ⟨V, hV⟩ : ∃ V, V = BV v.B := ⟨_, rfl⟩
    rw [← hV] at HM
    have HV := hide hV
    clear hN hV HM2
    gi_wp2_with (first
      | (with_reducible refine ai_load (M := V) Try.agg79 rfl HBx.out HL.out HM.out ?_)
      | (with_reducible refine stopi_val ?_))
    refine hide ?_
    try simp only [put_lit, List.set_cons_succ, List.set_cons_zero]
    refine ai_yc_in (yv := yv) (vy := .int .i64 k) (vz := .agg V.toArray) rfl rfl rfl (by rw [HV.out]; exact HYc.out) ?_
    rintro e w4 ⟨F', hcase, hk4, hF'⟩
    have hAs : W.heap.size < A.heap.size := HBy.out.lt
    have HB4 := hide (hk4.blk HBy.out hFy)
    have HF4 : Hid (¬ F' W.heap.size) := hide (fun h => by
      rcases hF' _ h with h | h
      · exact hFy h
      · omega)
    have hmap : (pre ++ [((k, v), i)]).map (·.1) = pre.map (·.1) ++ [(k, v)] := by simp
    rw [← hmap] at hcase
    clear hmap
    rcases hcase with ⟨rfl, hJ4⟩ | ⟨rfl, hJ4⟩
    · have HJ4 := hide hJ4
      clear hJ4 c0 c1
      refine ⟨_, rfl, ?_⟩
      try simp only [put_lit, List.set_cons_succ, List.set_cons_zero]
      gi_wp2
      exact ⟨F', ⟨HJ4.out, HB4.out, HF4.out⟩, hk4, hF'⟩
    · have HJ4 := hide hJ4
      clear hJ4 c0 c1
      refine ⟨_, rfl, ?_⟩
      try simp only [put_lit, List.set_cons_succ, List.set_cons_zero]
      gi_wp2
      exact ⟨F', HJ4.out, hk4, hF'⟩
  case done =>
    rintro D F A hD ⟨hJA, hBy, hFy⟩ hK
    have hJ2 := ownU_put (HJ.out.own _ _) (.deferred none) hJA (by omega) hK rfl
    have HJ2 := hide hJ2
    clear hJ2 hJA hBy
    go_wp2
    refine ⟨by simp, .inl ⟨_, _, rfl, run_takeDeferred hK, ?_⟩⟩
    exact ⟨_, results_none rfl _ _ _, ⟨_, rfl⟩, .inl ⟨F, HJ2.out⟩⟩
  case stop =>
    rintro D pre F A hD hpre hJA hK
    have hJ2 := ownU_put (HJx.out _ _) (.deferred none) hJA (by omega) hK rfl
    have HJ2 := hide hJ2
    have Hpre := hide hpre
    clear hJ2 hJA hpre
    go_wp2
    refine ⟨by simp, .inl ⟨_, _, rfl, run_takeDeferred hK, ?_⟩⟩
    obtain ⟨post, hpost⟩ := Hpre.out
    exact ⟨_, results_none rfl _ _ _, ⟨_, rfl⟩, .inr ⟨_, F, ⟨post.map (·.1), by rw [hpost]; simp⟩, HJ2.out⟩⟩

set_option maxHeartbeats 400000 in
theorem sall_atP (w : World) (ao : Option Addr) (n c : Nat) : Calls Try.prog 57 #[.slice ao n c] w fun e w' => e = .returned (.func (.func 73) #[] #[.pointer (some ⟨w.heap.size, 0, none⟩)]) ∧ w' = w.alloc (.cells #[.slice ao n c] 110) := by
  go_enter Try.func57, Try.ntmps57
  go_wp2
  go_ret
  exact ⟨rfl, rfl⟩
set_option maxHeartbeats 400000 in
theorem all_atP (w : World) (po : Option Addr) : Calls Try.prog 35 #[.pointer po] w fun e w' => e = .returned (.func (.func 55) #[] #[.pointer (some ⟨w.heap.size, 0, none⟩)]) ∧ w' = w.alloc (.cells #[.pointer po] 74) := by
  go_enter Try.func35, Try.ntmps35
  go_wp2
  go_ret
  exact ⟨rfl, rfl⟩
def enc1P (x : EntP) : Array Value := #[.int .i64 x.1, .agg (BV x.2.B).toArray]

set_option maxRecDepth 100000 in
set_option maxHeartbeats 1000000 in
theorem all1_coreP (W : World) (Bm : Nat) (po : Option Addr) (v : Value) (l : List EntP) (X : Nat → Prop) (hbm : Blk W Bm [.pointer po] 74) (hli : Calls Try.prog 58 #[.pointer po] W fun e w' => e = .returned v ∧ W = w') (hs : SrcEP W v l) (hX1 : ∀ k, vX v k → X k) (hX2 : ∀ k, X k → k < W.heap.size) (hl : l.length ≤ 1000000) :
    SeqAt Try.prog 55 #[.pointer (some ⟨Bm, 0, none⟩)] enc1P l X W := by
  intro yv J Jx F0 hyv hJ hJx hF0 hX hY h0
  have c : W.cell? ⟨Bm, 0, none⟩ = some (.pointer po) := hbm.cell 0
  have HL := hide hli
  obtain ⟨ao, cap, rfl, hcap, hsrc⟩ := hs
  have HT : Hid (∀ w1, w1 = W.alloc (.cells #[.slice ao l.length cap] 110) → Calls Try.prog 56 #[.func (.func 73) #[] #[.pointer (some ⟨W.heap.size, 0, none⟩)], yv] w1 (Ended J Jx l)) := hide (by
    rintro w1 hw1
    have hk : Kept (fun _ => False) W w1 := by rw [hw1]; exact Kept.alloc _ _ _
    have hb : Blk w1 W.heap.size [.slice ao l.length cap] 110 := by rw [hw1]; exact Blk.newA W _ _
    have hsz : w1.heap.size = W.heap.size + 1 := by rw [hw1]; simp
    have h := tell_atP w1 73 #[.pointer (some ⟨W.heap.size, 0, none⟩)] l.zipIdx (fun k => k = W.heap.size ∨ vX (.slice ao l.length cap) k) (enters_of Try.func73 (by kernel_rfl) rfl)
      (fun W' hk' => sall1P W' W.heap.size (.slice ao l.length cap) l (hk'.blk hb (fun h => h)) ⟨ao, cap, rfl, hcap, fun h => by obtain ⟨g, off, he, hc⟩ := hsrc h; exact ⟨g, off, he, hk'.cells (hk.cells hc (fun h => h)) (fun h => h)⟩⟩ hl)
      (by
        rintro k (h | h)
        · omega
        · have := hX2 k (hX1 k h); omega)
      yv J Jx F0 hyv ⟨fun pre F => ownU_le (hJ.own pre F) (by omega), fun pre F A hA k hk hB => hJ.cells pre F A hA k hk (by omega)⟩ (fun pre F => ownU_le (hJx pre F) (by omega)) (fun k hk => by have := hF0 k hk; omega)
      (by
        rintro k (h | h) hf
        · have := hF0 k hf; omega
        · exact hX k (hX1 k h) hf)
      (by rw [zip_fst]; exact hY) (ownU_kept (hJ.own _ _) hk h0)
    rw [zip_fst] at h
    exact h)
  clear hJ hJx hF0 hX hY h0 hbm hli hsrc hX1 hX2 hyv
  show Calls Try.prog 55 #[yv, .pointer (some ⟨Bm, 0, none⟩)] W (Ended J Jx l)
  go_enter Try.func55, Try.ntmps55
  go_wp2_with fail
  refine HL.out.mono ?_
  rintro e w1 ⟨rfl, rfl⟩
  go_wp2_with fail
  refine (sall_atP W ao l.length cap).mono ?_
  rintro e w1 ⟨rfl, hw1⟩
  have HT1 := hide (HT.out w1 hw1)
  clear HT hw1
  go_wp2_with fail
  refine HT1.out.mono ?_
  rintro e w2 ⟨⟨u, rfl⟩, hend⟩
  have HE := hide hend
  clear hend
  go_wp2
  go_end0
  exact ⟨⟨_, rfl⟩, HE.out⟩
theorem own_srcP {W : World} {v : Value} {l : List EntP} (h : OwnP W v l) : SrcEP W v l := by
  rcases ownsRow_blk h with ⟨rfl, h0, _⟩ | ⟨g, cap, C, rfl, hb, hnc, hcm, hC⟩
  · exact ⟨none, 0, by rw [h0], by omega, fun h => by omega⟩
  · refine ⟨_, cap, rfl, hnc, fun _ => ⟨g, 0, rfl, ?_⟩⟩
    have h := hb.cells 0 (l.length * 65)
    rw [List.drop_zero, List.take_append_of_le_length (by rw [encP_length]; omega), List.take_of_length_le (by rw [encP_length]; omega)] at h
    exact h
theorem all1_atP (W : World) (Bm p : Nat) (v : Value) (l : List EntP) (hbm : Blk W Bm [.pointer (some ⟨p, 0, none⟩)] 74) (hm : MapP W p v l) (hl : l.length ≤ 1000000) :
    SeqAt Try.prog 55 #[.pointer (some ⟨Bm, 0, none⟩)] enc1P l (footM p v) W :=
  all1_coreP W Bm _ v l _ hbm (list_atP W p v hm.blk) (own_srcP hm.own) (fun k hk => .inr (own_vX hm.own hk)) (by
    rintro k (h | h)
    · rw [h]; exact hm.blk.lt
    · exact ownsRow_lt hm.own k h) hl
theorem all1_nilP (W : World) (Bm : Nat) (hbm : Blk W Bm [.pointer none] 74) :
    SeqAt Try.prog 55 #[.pointer (some ⟨Bm, 0, none⟩)] enc1P [] (fun _ => False) W :=
  all1_coreP W Bm _ (.slice none 0 0) [] _ hbm (list_nilP W) ⟨none, 0, rfl, by simp, fun h => by simp at h⟩ (fun k ⟨off, n, c, h⟩ => by cases h) (fun _ h => h.elim) (by simp)

end Go.Proofs.Ytnlcmgdeohbmoaa

/-
  Get of an order of blocks.
-/
namespace Go.Proofs.Ytnlcmgdeohbmoaa
open Go.RowKit Go.Shelf
set_option linter.unusedSimpArgs false
set_option linter.unusedVariables false
set_option maxRecDepth 100000

theorem run_loadVarP {P : Program} {t : TypeId} {n b : Nat} {L : List Value} {e : TypeId} {w : World} (ht : aggSize P t n) (hb : Blk w b L e) (hl : L.length = n) :
    (loadVar t ⟨b, 0, none⟩).run P w = .ok (.agg L.toArray) w := by
  have hc := run_loadCells_list (P := P) w ⟨b, 0, none⟩ L (fun j v hj => by rw [addr_add, hb.cell, Nat.zero_add]; exact hj)
  rw [hl] at hc
  simp [loadVar, run_isAgg ht, run_sizeOf ht, hc]
theorem results_cell2P {P : Program} {fn : Func} {t u : Tmp} {ty : TypeId} {n b : Nat} {L : List Value} {e : TypeId} {tmps : Array Value} {w : World} (h : fn.results = #[.cell t ty, .tmp u]) (ht : aggSize P ty n) (hx : tmps.getD t undef = .pointer (some ⟨b, 0, none⟩)) (hb : Blk w b L e) (hl : L.length = n) :
    (results fn tmps).run P w = .ok (.tuple #[.agg L.toArray, tmps.getD u undef]) w := by
  have hv := run_loadVarP (P := P) ht hb hl
  simp only [Array.getD_eq_getD_getElem?] at hx
  simp [results, h, hx, hv, asAddr]
/-- The value of a key that is there. -/
def getP (l : List EntP) (k : Int) : Option Bk := if hasK ltI l k then (l[posK ltI l k]?).map (·.2) else none
theorem getP_some {l : List EntP} {k : Int} (h : hasK ltI l k = true) : getP l k = some (l[posK ltI l k]'(hasK_lt h)).2 := by
  unfold getP
  rw [if_pos h, List.getElem?_eq_getElem (hasK_lt h)]
  rfl
theorem zc79 : (Value.agg (List.replicate 64 (.int .u8 0)).toArray).cells.toList.length = 64 := rfl
set_option maxHeartbeats 2000000 in
theorem get_someP (w : World) (p : Nat) (v : Value) (l : List EntP) (k : Int) (x : Bk) (h : MapP w p v l) (hl : l.length ≤ 1000000) (hg : getP l k = some x) :
    Calls Try.prog 29 #[.pointer (some ⟨p, 0, none⟩), .int .i64 k] w fun e w' => e = .returned (.tuple #[.agg (BV x.B).toArray, .bool true]) ∧ Kept (fun _ => False) w w' := by
  have H1 := hide (fun (w' : World) (hk : Kept (fun _ => False) w w') => find_atP w' p v l k (h.kept hk (fun h => h) (fun _ _ h => h)) hl)
  have hh : hasK ltI l k = true := by
    cases hh : hasK ltI l k with
    | true => rfl
    | false => unfold getP at hg; rw [if_neg (by rw [hh]; decide)] at hg; cases hg
  have hlt := hasK_lt hh
  have hx : l[posK ltI l k].2 = x := by rw [getP_some hh] at hg; exact Option.some.inj hg
  rw [hh] at H1
  have HM := hide h
  rcases ownsRow_blk h.own with ⟨_, h0, _⟩ | ⟨g, cap, C, rfl, hb, hnc, hcm, hC⟩
  · omega
  have hv := own_valP (C := C) (posK ltI l k) hlt
  rw [hx] at hv
  have HV := hide hv.1
  have HVl := hide hv.2
  have HB := hide hb
  have hxl := BVk_length x
  have hx1 := BV_one x.B
  obtain ⟨i0, hi0, hz0, hs0, hb0⟩ := info_parts Try.info79
  have Hi0 := hide hi0
  have Hz0 := hide hz0
  clear h hh hg hx hv hb hC hi0 hz0 hs0 hb0
  generalize posK ltI l k = a at *
  obtain ⟨M, hM⟩ : ∃ M, M = BV x.B := ⟨_, rfl⟩
  rw [← hM] at hxl hx1 HV ⊢
  have HX := hide hxl
  have HX1 := hide hx1
  clear hM hxl hx1
  go_enter Try.func29, Try.ntmps29
  go_wp2_with (first
    | ((with_reducible refine aw_alloc (t := 79) Hi0.out Hz0.out ?_); intro w1 hb1 hk1 hz1; have HB1 := hide hb1; have HK1 := hide hk1; clear hb1 hk1 hz1)
    | fail)
  go_wp2_with fail
  refine (H1.out _ HK1.out).mono ?_
  rintro e w2 ⟨rfl, hk⟩
  have HK2 := hide (HK1.out.trans hk (fun _ _ h => h))
  have c0 : w2.cell? ⟨p, 0, none⟩ = some (.slice (some ⟨g, 0, none⟩) l.length cap) := (HM.out.kept HK2.out (fun h => h) (fun _ _ h => h)).blk.cell 0
  have HB2 := hide (HK2.out.blk HB.out (fun h => h))
  have HX2 := hide (hk.blk HB1.out (fun h => h))
  clear hk
  unfold maxLen at hcm
  simp only [put_lit, List.set_cons_succ, List.set_cons_zero]
  go_wp2_with (first
    | (with_reducible refine aw_load (M := M) Try.agg79 rfl HB2.out HVl.out HV.out ?_)
    | ((with_reducible refine aw_store (M := M) Try.agg79 rfl rfl HX.out HX1.out HX2.out (by rw [zc79]; omega) ?_); intro w3 hw3 hk3 hz3; have HW3 := hide hw3; rw [put_whole _ _ (by rw [zc79, HX.out])] at HW3; have HK3 := hide hk3; clear hw3 hk3 hz3))
  refine bodyPost_ret (results_cell2P (t := 4) (u := 5) (ty := 79) rfl Try.agg79 rfl HW3.out HX.out) rfl ⟨rfl, ?_⟩
  exact HK2.out.trans HK3.out (fun j hj h => by omega)
set_option maxHeartbeats 2000000 in
theorem get_noneP (w : World) (p : Nat) (v : Value) (l : List EntP) (k : Int) (h : MapP w p v l) (hl : l.length ≤ 1000000) (hg : getP l k = none) :
    Calls Try.prog 29 #[.pointer (some ⟨p, 0, none⟩), .int .i64 k] w fun e w' => e = .returned (.tuple #[.agg (List.replicate 64 (.int .u8 0)).toArray, .bool false]) ∧ Kept (fun _ => False) w w' := by
  have H1 := hide (fun (w' : World) (hk : Kept (fun _ => False) w w') => find_atP w' p v l k (h.kept hk (fun h => h) (fun _ _ h => h)) hl)
  have hh : hasK ltI l k = false := by
    cases hh : hasK ltI l k with
    | false => rfl
    | true => rw [getP_some hh] at hg; cases hg
  rw [hh] at H1
  obtain ⟨i0, hi0, hz0, hs0, hb0⟩ := info_parts Try.info79
  have Hi0 := hide hi0
  have Hz0 := hide hz0
  clear h hh hg hi0 hz0 hs0 hb0
  generalize posK ltI l k = a at *
  obtain ⟨M, hM⟩ : ∃ M, M = List.replicate 64 (Value.int .u8 0) := ⟨_, rfl⟩
  rw [← hM] at Hz0 ⊢
  have HX : Hid (M.length = 64) := hide (by rw [hM]; rfl)
  have HX1 : Hid (∀ u ∈ M, u.oneCell' = true) := hide (by rw [hM]; intro u hu; rw [List.eq_of_mem_replicate hu]; rfl)
  have HMc : Hid ((Value.agg M.toArray).cells.toList = M) := hide rfl
  clear hM
  go_enter Try.func29, Try.ntmps29
  go_wp2_with (first
    | ((with_reducible refine aw_alloc (t := 79) Hi0.out Hz0.out ?_); intro w1 hb1 hk1 hz1; have HB1 := hide hb1; have HK1 := hide hk1; clear hb1 hk1 hz1)
    | fail)
  go_wp2_with fail
  refine (H1.out _ HK1.out).mono ?_
  rintro e w2 ⟨rfl, hk⟩
  have HK2 := hide (HK1.out.trans hk (fun _ _ h => h))
  have HX2 := hide (hk.blk HB1.out (fun h => h))
  clear hk
  rw [HMc.out] at HX2
  simp only [put_lit, List.set_cons_succ, List.set_cons_zero]
  go_wp2_with (first
    | ((with_reducible refine aw_alloc (t := 79) Hi0.out Hz0.out ?_); intro w3 hb3 hk3 hz3; have HB3 := hide hb3; rw [HMc.out] at HB3; have HX3 := hide (hk3.blk HX2.out (fun h => h)); have HK3 := hide (HK2.out.trans hk3 (fun _ _ h => h)); clear hb3 hk3 hz3)
    | (with_reducible refine aw_load (M := M) Try.agg79 rfl HB3.out (by rw [HX.out]; omega) (List.take_of_length_le (by rw [List.drop_zero, HX.out]; omega)) ?_)
    | ((with_reducible refine aw_store (M := M) Try.agg79 rfl rfl HX.out HX1.out HX3.out (by rw [HX.out]; omega) ?_); intro w4 hw4 hk4 hz4; have HW4 := hide hw4; rw [put_whole _ _ rfl] at HW4; have HK4 := hide hk4; clear hw4 hk4 hz4))
  refine bodyPost_ret (results_cell2P (t := 4) (u := 5) (ty := 79) rfl Try.agg79 rfl HW4.out HX.out) rfl ⟨rfl, ?_⟩
  exact HK3.out.trans HK4.out (fun j hj h => by omega)
end Go.Proofs.Ytnlcmgdeohbmoaa
