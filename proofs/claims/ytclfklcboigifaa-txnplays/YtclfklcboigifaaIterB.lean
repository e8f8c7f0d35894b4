/-
  The iterators: slices.All, order.tell, (*Map).All.
-/
import Derived.Test.YtclfklcboigifaaOpsB
import Derived.Test.YtclfklcboigifaaSeq
namespace Go.Proofs.Ytclfklcboigifaa
open Go.RowKit Go.Shelf
set_option linter.unusedSimpArgs false
set_option linter.unusedVariables false
attribute [local go_sem] Oper.semAt_some

theorem zip_succ {α : Type} (l : List α) (k : Nat) (h : k < l.length) : l.zipIdx.take (k + 1) = l.zipIdx.take k ++ [(l[k], k)] := by
  rw [List.take_succ_eq_append_getElem (by simpa using h)]
  simp
theorem zip_split {α : Type} (l : List α) (k : Nat) (h : k < l.length) : l.zipIdx = l.zipIdx.take k ++ (l[k], k) :: l.zipIdx.drop (k + 1) := by
  have h1 : k < l.zipIdx.length := by simpa using h
  have h2 := List.take_append_drop k l.zipIdx
  rw [List.drop_eq_getElem_cons h1] at h2
  simpa using h2.symm
theorem zip_fst {α : Type} (l : List α) : l.zipIdx.map (·.1) = l := by
  apply List.ext_getElem
  · simp
  · intro i h1 h2
    simp
def enc2B (x : EntB × Nat) : Array Value := #[.int .i64 (x.2 : Nat), .agg #[(Value.int .i64 (x.1.1)), (Value.slice (x.1.2).a (x.1.2).n (x.1.2).c)]]

set_option maxRecDepth 100000 in
set_option maxHeartbeats 2000000 in
theorem sall1B (W : World) (Bs : Nat) (v : Value) (l : List EntB) (hb : Blk W Bs [v] 104) (hs : SrcEB W v l) (hl : l.length ≤ 1000000) :
    SeqAt Try.prog 60 #[.pointer (some ⟨Bs, 0, none⟩)] enc2B l.zipIdx (fun k => k = Bs ∨ vX v k) W := by
  intro yv J Jx F0 hyv hJ hJx hF0 hX hY h0
  obtain ⟨ao, cap, rfl, hcap, hsrc⟩ := hs
  obtain ⟨i0, hi0, hz0, hs0, hb0⟩ := info_parts Try.info108
  have Hi0 := hide hi0
  have Hz0 := hide hz0
  have HJ := hide hJ
  have HJx := hide hJx
  have HY := hide hY
  have HX := hide hX
  have HSrc := hide hsrc
  have H0 := hide h0
  have c : W.cell? ⟨Bs, 0, none⟩ = some (.slice ao l.length cap) := hb.cell 0
  clear hi0 hz0 hs0 hb0 hJ hJx hY hX hsrc h0 hyv
  show Calls Try.prog 60 #[yv, .pointer (some ⟨Bs, 0, none⟩)] W (Ended J Jx l.zipIdx)
  refine (callsIn_wide (n := 4)).1 (callsIn_of_wp Try.func60 rfl trivial ?_ rfl)
  simp only [Try.ntmps60, List.size_toArray, List.length_cons, List.length_nil, Nat.reduceAdd, Nat.reduceSub, Array.replicate_succ, Array.replicate_zero, List.push_toArray, List.append_toArray, List.nil_append, List.cons_append]
  gi_wp2
  gi_loopw [7] (fun i wr => ∃ (k : Nat) (F : Nat → Prop), i = .int .i64 k ∧ k ≤ l.length ∧ Hid (J (l.zipIdx.take k) F wr) ∧ Hid (∀ g off, ao = some ⟨g, off, none⟩ → 0 < l.length → ¬ F g ∧ Cells wr g off (encE ekB evB l)))
    (fun i _ => l.length - (intOf i).toNat)
  case atStart => exact ⟨0, F0, rfl, Nat.zero_le _, hide H0.out, hide (fun g off he h => by
    obtain ⟨g', off', he', hc⟩ := HSrc.out h
    rw [he] at he'
    cases he'
    exact ⟨HX.out g (.inr ⟨off, _, _, by rw [he]⟩), hc⟩)⟩
  case round =>
    obtain ⟨k, F, rfl, hk, hJk, hsk⟩ := hrel
    clear c
    by_cases hlt : k < l.length
    · obtain ⟨g, off, rfl, _⟩ := HSrc.out (by omega)
      obtain ⟨hFg, hcs⟩ := hsk.out g off rfl (by omega)
      have c0 : wr.cell? ⟨g, off + k * 2, none⟩ = some (Value.int .i64 (l[k].1)) := hcs _ _ (encE_key l k hlt)
      have c1 : wr.cell? ⟨g, off + k * 2 + 1, none⟩ = some (Value.slice (l[k].2).a (l[k].2).n (l[k].2).c) := hcs _ _ (encE_val l k hlt)
      have Hzs := hide (zip_succ l k hlt)
      have Hzp := hide (zip_split l k hlt)
      have HCs := hide hcs
      obtain ⟨x, hx⟩ : ∃ x, x = l[k] := ⟨_, rfl⟩
      rw [← hx] at c0 c1 Hzs Hzp
      have Hx := hide hx
      clear hx hcs hsk
      gi_wp2_with (first
        | ((with_reducible refine ai_alloc Hi0.out Hz0.out ?_); intro w2 hw2 hk2 hz2; have Hz2 := hide hz2; clear hz2 c0 c1)
        | ((with_reducible refine ai_store (M := [(Value.int .i64 (x.1)), (Value.slice (x.2).a (x.2).n (x.2).c)]) Try.agg108 rfl rfl rfl (by simp [Value.oneCell']) hw2 (by simp [Value.cells]) ?_); intro w3 hw3 hk3 hz3; have Hz3 := hide hz3; clear hz3)
        | ((with_reducible refine ai_load (M := [(Value.int .i64 (x.1)), (Value.slice (x.2).a (x.2).n (x.2).c)]) Try.agg108 rfl hw3 (by simp [put, Value.cells]) (by simp [put, Value.cells]) ?_))
        | (with_reducible refine stopi_val ?_))
      refine hide ?_
      have hk13 : Kept (fun _ => False) wr w3 := hk2.trans hk3 (fun i hi h => by omega)
      have hyc := HY.out _ (x, k) _ F w3 Hzp.out (ownU_kept (HJ.out.own _ _) hk13 hJk.out)
      try simp only [put_lit, List.set_cons_succ, List.set_cons_zero]
      refine ai_yc (yv := yv) (vy := .int .i64 (k : Nat)) (vz := .agg #[(Value.int .i64 (x.1)), (Value.slice (x.2).a (x.2).n (x.2).c)]) rfl rfl rfl hyc ?_
      rintro e w4 ⟨F', hcase, hk4, hF'⟩
      have hgl : g < w3.heap.size := by
        have h := (hk13.cells HCs.out (fun h => h)) _ _ (encE_key l k hlt)
        exact World.block_lt_of_cell? w3 _ h
      have HS4 : Hid (∀ g' off', some (⟨g, off, none⟩ : Addr) = some ⟨g', off', none⟩ → 0 < l.length → ¬ F' g' ∧ Cells w4 g' off' (encE ekB evB l)) := hide (fun g' off' he h => by
        cases he
        refine ⟨fun hg => ?_, hk4.cells (hk13.cells HCs.out (fun h => h)) hFg⟩
        rcases hF' g hg with h | h
        · exact hFg h
        · omega)
      rw [← Hzs.out] at hcase
      rcases hcase with ⟨rfl, hJ4⟩ | ⟨rfl, hJ4⟩
      · have HJ4 := hide hJ4
        clear hJ4 hyc hk13 hk4 hw3 hw2 hk2 hk3 hF' HJ HY HX HSrc H0 hJk
        refine ⟨_, rfl, ?_⟩
        try simp only [put_lit, List.set_cons_succ, List.set_cons_zero]
        gi_wp2
        go_roundw
        case rel => exact ⟨k + 1, F', by simp, by omega, HJ4, HS4⟩
        case measure => simp [intOf]; omega
      · have HJ4 := hide hJ4
        have Hpre : Hid (∃ post, l.zipIdx = l.zipIdx.take (k + 1) ++ post) := hide ⟨_, (List.take_append_drop _ _).symm⟩
        clear hJ4 hyc hk13 hk4 hw3 hw2 hk2 hk3 hF' HJ HY HX HSrc H0 hJk
        refine ⟨_, rfl, ?_⟩
        try simp only [put_lit, List.set_cons_succ, List.set_cons_zero]
        gi_wp2
        refine bodyPost_ret (results_none rfl _ _ _) rfl ?_
        exact ⟨⟨_, rfl⟩, .inr ⟨_, F', Hpre.out, HJ4.out⟩⟩
    · obtain rfl : k = l.length := by omega
      gi_wp2
      go_end0
      refine ⟨⟨_, rfl⟩, .inl ⟨F, ?_⟩⟩
      have := hJk.out
      rwa [List.take_of_length_le (by simp)] at this

/-- The word of tell's loop. -/
def TellIB (J : List EntB → (Nat → Prop) → World → Prop) (By : Nat) (yv : Value) (pre : List (EntB × Nat)) (F : Nat → Prop) (W : World) : Prop := J (pre.map (·.1)) F W ∧ Blk W By [yv] 91 ∧ ¬ F By

set_option maxRecDepth 100000 in
set_option maxHeartbeats 4000000 in
theorem tell_atB (W : World) (gf : Nat) (lb : Array Value) (xs : List (EntB × Nat)) (X : Nat → Prop) (eg : ∀ args w, (callFunc gf args).run Try.prog w = .ok (.enter gf args) w) (hs : ∀ W', Kept (fun _ => False) W W' → SeqAt Try.prog gf lb enc2B xs X W') (hXl : ∀ k, X k → k < W.heap.size)
    (yv : Value) (J Jx : List EntB → (Nat → Prop) → World → Prop) (F0 : Nat → Prop) (hyv : yv.cells = #[yv]) (hJ : FootOk W.heap.size J) (hJx : ∀ pre F, OwnFrom W.heap.size (fun (_ : Unit) W => Jx pre F W)) (hF0 : ∀ k, F0 k → k < W.heap.size) (hX : ∀ k, X k → ¬ F0 k)
    (hY : ∀ pre x post F W1, xs.map (·.1) = pre ++ x :: post → J pre F W1 → YC Try.prog yv #[(Value.int .i64 (x.1)), (Value.slice (x.2).a (x.2).n (x.2).c)] W1 (Yielded J Jx (pre ++ [x]) F W1)) (h0 : J [] F0 W) :
    Calls Try.prog 48 #[.func (.func gf) #[] lb, yv] W (Ended J Jx (xs.map (·.1))) := by
  obtain ⟨i0, hi0, hz0, hs0, hb0⟩ := info_parts Try.info108
  have Hi0 := hide hi0
  have Hz0 := hide hz0
  have HJ := hide hJ
  have HJx := hide hJx
  have HY := hide hY
  have HX := hide hX
  have H0 := hide h0
  have HS := hide hs
  have HEg := hide eg
  have HYv := hide hyv
  clear hi0 hz0 hs0 hb0 hJ hJx hY hX h0 hs eg hyv
  refine (callsIn_wide (n := 4)).1 (callsIn_of_wp_marks Try.func48 rfl trivial (wpIn_wide.2 ?_) rfl)
  simp only [Try.ntmps48, List.size_toArray, List.length_cons, List.length_nil, Nat.reduceAdd, Nat.reduceSub, Array.replicate_succ, Array.replicate_zero, List.push_toArray, List.append_toArray, List.nil_append, List.cons_append]
  go_wp2_with ((with_reducible refine aw_box (t := 91) (v := yv) rfl ?_); intro w1 hb1 hk1 hz1; have Hz1 := hide hz1; clear hz1)
  have hb1' : Blk w1 W.heap.size [yv] 91 := by rw [HYv.out] at hb1; exact hb1
  have hW1 : W.heap.size < w1.heap.size := hb1'.lt
  clear hb1
  refine rangeF (gf := gf) (lb := lb) rfl HEg.out (encs := enc2B) (xs := xs) (X := X) (fun W' hk => HS.out W' (hk1.trans hk (fun _ _ h => h))) (fun _ => rfl)
    (TellIB J W.heap.size yv) (fun pre F W => Jx (pre.map (·.1)) F W) ⟨?own, ?cells⟩ (fun pre F => ownU_le (HJx.out _ F) (by omega)) F0 (fun k hk => by have := hF0 k hk; omega) (fun k hk => ⟨by have := hXl k hk; omega, HX.out k hk⟩)
    ⟨ownU_kept (HJ.out.own _ _) hk1 H0.out, hb1', fun h => by have := hF0 _ h; omega⟩
    (fun x a' W' => ∃ Bx, Blk W' Bx [(Value.int .i64 (x.1.1)), (Value.slice (x.1.2).a (x.1.2).n (x.1.2).c)] 108 ∧ a' = { tmps := #[.func (.func gf) #[] lb, yv, undef, .pointer (some ⟨W.heap.size, 0, none⟩), undef, .pointer (some ⟨Bx, 0, none⟩), .func (.func gf) #[] lb, .int .i64 (x.2 : Nat), .agg #[(Value.int .i64 (x.1.1)), (Value.slice (x.1.2).a (x.1.2).n (x.1.2).c)], undef, undef, undef, undef, undef, undef, undef], defers := [] })
    ?ax ?assign ?body ?done ?stop
  case own =>
    rintro pre F _ A B row ⟨h1, h2, h3⟩ hg hr
    refine ⟨HJ.out.own _ F () A B row h1 hg (fun r e => ⟨by have := (hr r e).1; omega, (hr r e).2⟩), (Kept.of_grown hg).blk h2 (fun e => ?_), h3⟩
    have := (hr _ e).1
    omega
  case cells =>
    rintro pre F A ⟨h1, h2, h3⟩ k hk hB
    exact HJ.out.cells _ F A h1 k hk (by omega)
  case ax =>
    rintro x a' _ A B row ⟨Bx, hx, he⟩ hg hr
    refine ⟨Bx, (Kept.of_grown hg).blk hx (fun e => ?_), he⟩
    obtain ⟨_, o, h3, h4⟩ := hr Bx e
    unfold Blk at hx
    rw [hx] at h3
    cases h3
    simp [Obj.isCells] at h4
  case assign =>
    intro l n pre x F A K hI hK
    have HKK := hide hK
    clear hK
    obtain ⟨⟨k, v⟩, i⟩ := x
    simp only [enc2B]
    gi_wp2_with (first
      | ((with_reducible refine ai_alloc Hi0.out Hz0.out ?_); intro w3 hw3 hk3 hz3; have Hz3 := hide hz3; clear hz3)
      | (with_reducible refine stopi_store 108 ?_))
    refine hide ?_
    refine ai_store (M := [(Value.int .i64 (k)), (Value.slice (v).a (v).n (v).c)]) Try.agg108 rfl rfl rfl (by simp [Value.oneCell']) hw3 (by simp [Value.cells]) ?_
    intro w4 hw4 hk4 hz4
    have Hz4 := hide hz4
    clear hz4
    gi_wp2
    rw [put_whole _ _ (by simp [Value.cells])] at hw4
    exact HKK.out _ w4 (hk3.trans hk4 (fun i hi h => by omega)) ⟨_, hw4, rfl⟩
  case body =>
    rintro l n pre x post F a' A hxs ⟨hJA, hBy, hFy⟩ ⟨Bx, hBx, rfl⟩
    obtain ⟨⟨k, v⟩, i⟩ := x
    have hyc := HY.out (pre.map (·.1)) (k, v) (post.map (·.1)) F A (by rw [hxs]; simp) hJA
    have c0 : A.cell? ⟨W.heap.size, 0, none⟩ = some yv := hBy.cell 0
    have c1 : A.cell? ⟨Bx, 0, none⟩ = some (Value.int .i64 (k)) := hBx.cell 0
    have c2 : A.cell? ⟨Bx, 1, none⟩ = some (Value.slice (v).a (v).n (v).c) := hBx.cell 1
    have HJA := hide hJA
    have HYc := hide hyc
    have Hxs := hide hxs
    have HBy := hide hBy
    clear hJA hyc hxs hBy hBx
    gi_wp2_with (with_reducible refine stopi_val ?_)
    refine hide ?_
    try simp only [put_lit, List.set_cons_succ, List.set_cons_zero]
    refine ai_yc_in (yv := yv) (vy := (Value.int .i64 (k))) (vz := (Value.slice (v).a (v).n (v).c)) rfl rfl rfl HYc.out ?_
    rintro e w4 ⟨F', hcase, hk4, hF'⟩
    have hAs : W.heap.size < A.heap.size := HBy.out.lt
    have HB4 := hide (hk4.blk HBy.out hFy)
    have HF4 : Hid (¬ F' W.heap.size) := hide (fun h => by
      rcases hF' _ h with h | h
      · exact hFy h
      · omega)
    have hmap : (pre ++ [((k, v), i)]).map (·.1) = pre.map (·.1) ++ [(k, v)] := by simp
    rw [← hmap] at hcase
    clear hmap
    rcases hcase with ⟨rfl, hJ4⟩ | ⟨rfl, hJ4⟩
    · have HJ4 := hide hJ4
      clear hJ4 c0 c1 c2
      refine ⟨_, rfl, ?_⟩
      try simp only [put_lit, List.set_cons_succ, List.set_cons_zero]
      gi_wp2
      exact ⟨F', ⟨HJ4.out, HB4.out, HF4.out⟩, hk4, hF'⟩
    · have HJ4 := hide hJ4
      clear hJ4 c0 c1 c2
      refine ⟨_, rfl, ?_⟩
      try simp only [put_lit, List.set_cons_succ, List.set_cons_zero]
      gi_wp2
      exact ⟨F', HJ4.out, hk4, hF'⟩
  case done =>
    rintro D F A hD ⟨hJA, hBy, hFy⟩ hK
    have hJ2 := ownU_put (HJ.out.own _ _) (.deferred none) hJA (by omega) hK rfl
    have HJ2 := hide hJ2
    clear hJ2 hJA hBy
    go_wp2
    refine ⟨by simp, .inl ⟨_, _, rfl, run_takeDeferred hK, ?_⟩⟩
    exact ⟨_, results_none rfl _ _ _, ⟨_, rfl⟩, .inl ⟨F, HJ2.out⟩⟩
  case stop =>
    rintro D pre F A hD hpre hJA hK
    have hJ2 := ownU_put (HJx.out _ _) (.deferred none) hJA (by omega) hK rfl
    have HJ2 := hide hJ2
    have Hpre := hide hpre
    clear hJ2 hJA hpre
    go_wp2
    refine ⟨by simp, .inl ⟨_, _, rfl, run_takeDeferred hK, ?_⟩⟩
    obtain ⟨post, hpost⟩ := Hpre.out
    exact ⟨_, results_none rfl _ _ _, ⟨_, rfl⟩, .inr ⟨_, F, ⟨post.map (·.1), by rw [hpost]; simp⟩, HJ2.out⟩⟩

set_option maxHeartbeats 400000 in
theorem sall_atB (w : World) (ao : Option Addr) (n c : Nat) : Calls Try.prog 49 #[.slice ao n c] w fun e w' => e = .returned (.func (.func 60) #[] #[.pointer (some ⟨w.heap.size, 0, none⟩)]) ∧ w' = w.alloc (.cells #[.slice ao n c] 104) := by
  go_enter Try.func49, Try.ntmps49
  go_wp2
  go_ret
  exact ⟨rfl, rfl⟩
set_option maxHeartbeats 400000 in
theorem all_atB (w : World) (po : Option Addr) : Calls Try.prog 37 #[.pointer po] w fun e w' => e = .returned (.func (.func 47) #[] #[.pointer (some ⟨w.heap.size, 0, none⟩)]) ∧ w' = w.alloc (.cells #[.pointer po] 89) := by
  go_enter Try.func37, Try.ntmps37
  go_wp2
  go_ret
  exact ⟨rfl, rfl⟩
def enc1B (x : EntB) : Array Value := #[(Value.int .i64 (x.1)), (Value.slice (x.2).a (x.2).n (x.2).c)]

set_option maxRecDepth 100000 in
set_option maxHeartbeats 1000000 in
theorem all1_coreB (W : World) (Bm : Nat) (po : Option Addr) (v : Value) (l : List EntB) (X : Nat → Prop) (hbm : Blk W Bm [.pointer po] 89) (hli : Calls Try.prog 50 #[.pointer po] W fun e w' => e = .returned v ∧ W = w') (hs : SrcEB W v l) (hX1 : ∀ k, vX v k → X k) (hX2 : ∀ k, X k → k < W.heap.size) (hl : l.length ≤ 1000000) :
    SeqAt Try.prog 47 #[.pointer (some ⟨Bm, 0, none⟩)] enc1B l X W := by
  intro yv J Jx F0 hyv hJ hJx hF0 hX hY h0
  have c : W.cell? ⟨Bm, 0, none⟩ = some (.pointer po) := hbm.cell 0
  have HL := hide hli
  obtain ⟨ao, cap, rfl, hcap, hsrc⟩ := hs
  have HT : Hid (∀ w1, w1 = W.alloc (.cells #[.slice ao l.length cap] 104) → Calls Try.prog 48 #[.func (.func 60) #[] #[.pointer (some ⟨W.heap.size, 0, none⟩)], yv] w1 (Ended J Jx l)) := hide (by
    rintro w1 hw1
    have hk : Kept (fun _ => False) W w1 := by rw [hw1]; exact Kept.alloc _ _ _
    have hb : Blk w1 W.heap.size [.slice ao l.length cap] 104 := by rw [hw1]; exact Blk.newA W _ _
    have hsz : w1.heap.size = W.heap.size + 1 := by rw [hw1]; simp
    have h := tell_atB w1 60 #[.pointer (some ⟨W.heap.size, 0, none⟩)] l.zipIdx (fun k => k = W.heap.size ∨ vX (.slice ao l.length cap) k) (enters_of Try.func60 (by kernel_rfl) rfl)
      (fun W' hk' => sall1B W' W.heap.size (.slice ao l.length cap) l (hk'.blk hb (fun h => h)) ⟨ao, cap, rfl, hcap, fun h => by obtain ⟨g, off, he, hc⟩ := hsrc h; exact ⟨g, off, he, hk'.cells (hk.cells hc (fun h => h)) (fun h => h)⟩⟩ hl)
      (by
        rintro k (h | h)
        · omega
        · have := hX2 k (hX1 k h); omega)
      yv J Jx F0 hyv ⟨fun pre F => ownU_le (hJ.own pre F) (by omega), fun pre F A hA k hk hB => hJ.cells pre F A hA k hk (by omega)⟩ (fun pre F => ownU_le (hJx pre F) (by omega)) (fun k hk => by have := hF0 k hk; omega)
      (by
        rintro k (h | h) hf
        · have := hF0 k hf; omega
        · exact hX k (hX1 k h) hf)
      (by rw [zip_fst]; exact hY) (ownU_kept (hJ.own _ _) hk h0)
    rw [zip_fst] at h
    exact h)
  clear hJ hJx hF0 hX hY h0 hbm hli hsrc hX1 hX2 hyv
  show Calls Try.prog 47 #[yv, .pointer (some ⟨Bm, 0, none⟩)] W (Ended J Jx l)
  go_enter Try.func47, Try.ntmps47
  go_wp2_with fail
  refine HL.out.mono ?_
  rintro e w1 ⟨rfl, rfl⟩
  go_wp2_with fail
  refine (sall_atB W ao l.length cap).mono ?_
  rintro e w1 ⟨rfl, hw1⟩
  have HT1 := hide (HT.out w1 hw1)
  clear HT hw1
  go_wp2_with fail
  refine HT1.out.mono ?_
  rintro e w2 ⟨⟨u, rfl⟩, hend⟩
  have HE := hide hend
  clear hend
  go_wp2
  go_end0
  exact ⟨⟨_, rfl⟩, HE.out⟩
theorem own_srcB {W : World} {v : Value} {l : List EntB} (h : OwnB W v l) : SrcEB W v l := by
  rcases ownsRow_blk h with ⟨rfl, h0, _⟩ | ⟨g, cap, C, rfl, hb, hnc, hcm, hC⟩
  · exact ⟨none, 0, by rw [h0], by omega, fun h => by omega⟩
  · refine ⟨_, cap, rfl, hnc, fun _ => ⟨g, 0, rfl, ?_⟩⟩
    have h := hb.cells 0 (l.length * 2)
    rw [List.drop_zero, List.take_append_of_le_length (by rw [encE_length]; omega), List.take_of_length_le (by rw [encE_length]; omega)] at h
    exact h
theorem all1_atB (W : World) (Bm p : Nat) (v : Value) (l : List EntB) (hbm : Blk W Bm [.pointer (some ⟨p, 0, none⟩)] 89) (hm : MapB W p v l) (hl : l.length ≤ 1000000) :
    SeqAt Try.prog 47 #[.pointer (some ⟨Bm, 0, none⟩)] enc1B l (footM p v) W :=
  all1_coreB W Bm _ v l _ hbm (list_atB W p v hm.blk) (own_srcB hm.own) (fun k hk => .inr (own_vX hm.own hk)) (by
    rintro k (h | h)
    · rw [h]; exact hm.blk.lt
    · exact ownsRow_lt hm.own k h) hl
theorem all1_nilB (W : World) (Bm : Nat) (hbm : Blk W Bm [.pointer none] 89) :
    SeqAt Try.prog 47 #[.pointer (some ⟨Bm, 0, none⟩)] enc1B [] (fun _ => False) W :=
  all1_coreB W Bm _ (.slice none 0 0) [] _ hbm (list_nilB W) ⟨none, 0, rfl, by simp, fun h => by simp at h⟩ (fun k ⟨off, n, c, h⟩ => by cases h) (fun _ h => h.elim) (by simp)

end Go.Proofs.Ytclfklcboigifaa
