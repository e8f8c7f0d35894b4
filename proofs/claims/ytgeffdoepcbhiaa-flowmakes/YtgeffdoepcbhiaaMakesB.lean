/-
  The pieces of FlowMakes.
-/
import Derived.Test.YtgeffdoepcbhiaaMakesA
import Derived.Test.YtgeffdoepcbhiaaFirstI
namespace Go.Proofs.Ytgeffdoepcbhiaa
open Go.RowKit Go.Shelf
set_option linter.unusedSimpArgs false
set_option linter.unusedVariables false
attribute [local go_sem] Oper.semAt_some

set_option maxHeartbeats 1000000 in
theorem asked_at (W : World) (v : Value) (bc : Nat) (hv : v.cells = #[v]) : Calls Try.prog 18 #[v, .pointer (some ⟨bc, 0, none⟩)] W fun e W' => ∃ bl bp, e = .returned (.func (.func 51) #[] #[.pointer (some ⟨bl, 0, none⟩), .pointer (some ⟨bp, 0, none⟩)]) ∧ Blk W' bl [v] 22 ∧ Blk W' bp [.pointer (some ⟨bc, 0, none⟩)] 40 ∧ Kept (fun _ => False) W W' ∧ W.heap.size ≤ bl ∧ W.heap.size ≤ bp := by
  have Hv := hide hv
  clear hv
  go_enter Try.func18, Try.ntmps18
  go_wp2_with (first
    | ((with_reducible refine aw_box (t := 22) (v := v) rfl ?_); intro w1 hb1 hk1 hz1; have Hz1 := hide hz1; have Hb1 := hide hb1; have Hk1 := hide hk1; clear hz1 hb1 hk1)
    | ((with_reducible refine aw_box (t := 40) (v := .pointer (some ⟨bc, 0, none⟩)) rfl ?_); intro w2 hb2 hk2 hz2; have Hz2 := hide hz2; have Hb2 := hide hb2; have Hk2 := hide hk2; clear hz2 hb2 hk2))
  go_ret
  have hz1 := Hz1.out
  have hb1 := Hb1.out
  rw [Hv.out] at hb1
  exact ⟨_, _, rfl, Hk2.out.blk hb1 (fun h => h), Hb2.out, Hk1.out.trans Hk2.out (fun _ _ h => h), Nat.le_refl _, by omega⟩
theorem SrcV.lt {W : World} {v : Value} {vs : List Value} (h : SrcV W v vs) (h0 : 0 < vs.length) {k : Nat} (hk : vX v k) : k < W.heap.size := by
  obtain ⟨ao, cap, rfl, _, hsrc, _⟩ := h
  obtain ⟨g, off, rfl, hcs⟩ := hsrc h0
  obtain ⟨off', n', c', he⟩ := hk
  simp at he
  obtain ⟨⟨rfl, rfl⟩, _⟩ := he
  have := hcs 0 _ (List.getElem?_eq_getElem h0)
  exact World.block_lt_of_cell? W _ this
theorem asked_ok {xs : List I64} {bl bp bc : Nat} {v : Value} {W : World} (hbl : Blk W bl [v] 22) (hbp : Blk W bp [.pointer (some ⟨bc, 0, none⟩)] 40) (hbc : Blk W bc [.int .i64 0] 3) (hv : SrcV W v (xs.map DI)) (hl : xs.length ≤ 1000000) (hap : ∀ k, askX bl bp xs v k → k ≠ bc) :
    SeqOk Try.prog (.func (.func 51) #[] #[.pointer (some ⟨bl, 0, none⟩), .pointer (some ⟨bp, 0, none⟩)]) (EncD DI) xs (askX bl bp xs v) (fun k => k = bc) (askP bc) W := by
  refine ⟨.inl ⟨_, _, rfl⟩, ?_, hap, EncD.ok _ _, fun b pre W W' S h hk hS => hk.blk h (fun h => hS _ h rfl), ?_⟩
  · rintro k ((h | h | h) | h)
    · rw [h]; exact hbl.lt
    · rw [h]; exact hbp.lt
    · exact hv.lt (by rw [List.length_map]; exact h.1) h.2
    · rw [h]; exact hbc.lt
  · intro _ W' S hk hS
    refine asked1_at (hk.blk hbl (fun h => (hS _ h).1 (.inl rfl))) (hk.blk hbp (fun h => (hS _ h).1 (.inr (.inl rfl)))) (hk.blk hbc (fun h => (hS _ h).2 rfl)) ?_ hl hap
    by_cases h0 : 0 < xs.length
    · exact hv.kept hk (fun k hx hs => (hS k hs).1 (.inr (.inr ⟨h0, hx⟩)))
    · obtain rfl : xs = [] := List.eq_nil_of_length_eq_zero (by omega)
      obtain ⟨ao, cap, he, h1, _, h2⟩ := hv
      exact ⟨ao, cap, he, h1, fun h => by simp at h, h2⟩

set_option maxHeartbeats 400000 in
theorem f16 (x : I64) (b : Int) (bb : Nat) (w : World) (hb : Blk w bb [.int .i64 b] 3) : Calls Try.prog 16 #[DI x, .pointer (some ⟨bb, 0, none⟩)] w fun e w' => e = .returned (.bool (pB b x)) ∧ w = w' := by
  have c0 : w.cell? ⟨bb, 0, none⟩ = some (.int .i64 b) := hb.cell 0
  clear hb
  show Calls Try.prog 16 #[.int .i64 x.1, .pointer (some ⟨bb, 0, none⟩)] w _
  go_enter Try.func16, Try.ntmps16
  go_wp2
  go_ret
  exact ⟨rfl, rfl⟩
theorem f16_ok {W : World} {bb : Nat} {b : Int} (hb : Blk W bb [.int .i64 b] 3) : FnOk Try.prog (.func (.func 16) #[] #[.pointer (some ⟨bb, 0, none⟩)]) (EncD DI) Value.bool (pB b) (fun k => k = bb) W :=
  FnOk.of (enters_of Try.func16 (by kernel_rfl) rfl) (by
    rintro W' S hk hS x v G ⟨rfl, _⟩
    refine (f16 x b bb W' (hk.blk hb (fun h => hS _ h rfl))).mono ?_
    rintro e w' ⟨rfl, rfl⟩
    exact ⟨rfl, Kept.refl _ _⟩)
theorem xor_range (x : Int) : -9223372036854775808 ≤ bits .xor .i64 x 1 ∧ bits .xor .i64 x 1 ≤ 9223372036854775807 := by
  unfold bits
  rw [IntKind.wrap_i64]
  omega
def fX (x : I64) : I64 := ⟨bits .xor .i64 x.1 1, xor_range x.1⟩
set_option maxHeartbeats 400000 in
theorem f26 (x : I64) (w : World) : Calls Try.prog 26 #[DI x] w fun e w' => e = .returned (DI (fX x)) ∧ w = w' := by
  show Calls Try.prog 26 #[.int .i64 x.1] w _
  go_enter Try.func26, Try.ntmps26
  go_wp2
  go_ret
  exact ⟨rfl, rfl⟩
theorem f26_ok (W : World) : FnOk Try.prog (.func (.func 26) #[] #[]) (EncD DI) DI fX (fun _ => False) W :=
  FnOk.of (enters_of Try.func26 (by kernel_rfl) rfl) (by
    rintro W' S hk hS x v G ⟨rfl, _⟩
    refine (f26 x W').mono ?_
    rintro e w' ⟨rfl, rfl⟩
    exact ⟨rfl, Kept.refl _ _⟩)

/-- List of this sequence is ys, and behind it the count is cnt. -/
def LSeq (bc : Nat) (cnt : Nat) (ys : List I64) (sv : Value) (W : World) : Prop :=
  Calls Try.prog 9 #[sv] W fun e W' => ∃ kv, e = .returned kv ∧ W'.ownsRow 0 3 1 kv ys.length (ys.map DI) ∧ (∀ b, kv.ownBlock = some b → W.heap.size ≤ b) ∧ Kept (fun k => k = bc) W W' ∧ Blk W' bc [.int .i64 (cnt : Nat)] 3
/-- First of the counting sequence. -/
theorem firstM {W : World} {sv : Value} {xs : List I64} {bl bp bc : Nat} {v : Value} (hs : SeqOk Try.prog sv (EncD DI) xs (askX bl bp xs v) (fun k => k = bc) (askP bc) W) (hbc : Blk W bc [.int .i64 0] 3) (k : Int) (hk : k ≤ 9223372036854775807) (hl : xs.length ≤ 1000000) :
    Calls Try.prog 17 #[sv, .int .i64 k] W fun e W' => ∃ sv', e = .returned sv' ∧ LSeq bc (xs.take k.toNat).length (xs.take k.toNat) sv' W' ∧ Kept (fun _ => False) W W' := by
  by_cases h0 : 1 ≤ k
  · refine (first_atI W sv _ h0 hs.cells).mono ?_
    rintro e w3 ⟨bn, bs, rfl, h1, h2, h3, h4, h5⟩
    have hlc := hbc.lt
    have hok := first_okI h0 hk (hs.kept h3 (fun _ h => h.elim)) h1 h2 ⟨by omega, by omega⟩
    refine ⟨_, rfl, ?_, h3⟩
    refine (list_atI hok (encD_one DI_one) (by rw [List.length_take]; omega)).mono ?_
    rintro e w4 ⟨kv, vs, G, rfl, g1, g2, g3, ⟨b', g4⟩, g5, g6⟩
    have := g2.encD
    subst this
    exact ⟨kv, rfl, g1, g5, g3, g4⟩
  · refine (first_lowI W sv _ (by omega)).mono ?_
    rintro e w3 ⟨b, v', rfl, h1, h2, h3, h4, h5⟩
    have he : xs.take k.toNat = [] := by rw [show k.toNat = 0 by omega]; rfl
    rw [he]
    have hok := of_okI (D := DI) (xs := []) h1 h2 (fun x => (DI_one x).1) (by simp)
    refine ⟨_, rfl, ?_, h3⟩
    refine (list_atI hok (encD_one DI_one) (by simp)).mono ?_
    rintro e w4 ⟨kv, vs, G, rfl, g1, g2, g3, _, g5, g6⟩
    have := g2.encD
    subst this
    exact ⟨kv, rfl, g1, g5, g3.mono (fun _ _ h => h.elim), g3.blk (h3.blk hbc (fun h => h)) (fun h => h)⟩
/-- How many Until and Find ask for. -/
def cntU (b : Int) (xs : List I64) : Nat := if (xs.takeWhile (fun x => !pB b x)).length = xs.length then xs.length else (xs.takeWhile (fun x => !pB b x)).length + 1
theorem cntU_all {b : Int} {xs : List I64} (h : xs.takeWhile (fun x => !pB b x) = xs) : cntU b xs = xs.length := by unfold cntU; rw [h]; simp
theorem cntU_at {b : Int} {xs q : List I64} {x : I64} {post : List I64} (h : xs = q ++ x :: post) (h2 : xs.takeWhile (fun x => !pB b x) = q) : cntU b xs = q.length + 1 := by
  unfold cntU
  rw [h2, if_neg]
  rw [h]
  simp
theorem untl_is {b : Int} {xs ys : List I64} {asks : Nat} (h : Untl b xs ys asks) : ys = xs.takeWhile (fun x => !pB b x) ∧ asks = cntU b xs := by
  rcases h with ⟨x, post, h1, h2, h3, rfl⟩ | ⟨rfl, h3, rfl⟩
  · have he : xs.takeWhile (fun x => !pB b x) = ys := by rw [h1, take_untilI h3, List.takeWhile_cons_of_neg (by simp [h2])]; simp
    exact ⟨he.symm, (cntU_at h1 he).symm⟩
  · have he : xs.takeWhile (fun x => !pB b x) = xs := by have := take_untilI h3 []; simpa using this
    exact ⟨he.symm, (cntU_all he).symm⟩
/-- Until of the counting sequence. -/
theorem untilM {W : World} {sv : Value} {xs : List I64} {bl bp bc bb : Nat} {v : Value} {b : Int} (hs : SeqOk Try.prog sv (EncD DI) xs (askX bl bp xs v) (fun k => k = bc) (askP bc) W) (hbb : Blk W bb [.int .i64 b] 3) (hne : bb ≠ bc) (hbc : bc < W.heap.size) (hl : xs.length ≤ 1000000) :
    Calls Try.prog 20 #[sv, .func (.func 16) #[] #[.pointer (some ⟨bb, 0, none⟩)]] W fun e W' => ∃ sv', e = .returned sv' ∧ LSeq bc (cntU b xs) (xs.takeWhile (fun x => !pB b x)) sv' W' ∧ Kept (fun _ => False) W W' := by
  refine (until_atI W sv _ hs.cells rfl).mono ?_
  rintro e w3 ⟨bs, bi, rfl, h1, h2, h3, h4, h5⟩
  have hok := until_okI (p := pB b) (Xf := fun k => k = bb) (hs.kept h3 (fun _ h => h.elim)) (.inr ⟨⟨_, _, rfl⟩, f16_ok (h3.blk hbb (fun h => h))⟩) (fun k h => by rw [h]; exact ⟨(h3.blk hbb (fun h => h)).lt, hne⟩) h1 h2 ⟨by omega, by omega⟩
  refine ⟨_, rfl, ?_, h3⟩
  have hlw : (xs.takeWhile (fun x => !pB b x)).length ≤ xs.length := (List.takeWhile_prefix _).length_le
  refine (list_atI hok (encD_one DI_one) (by omega)).mono ?_
  rintro e w4 ⟨kv, vs, G, rfl, g1, g2, g3, g4, g5, g6⟩
  have := g2.encD
  subst this
  refine ⟨kv, rfl, g1, g5, g3, ?_⟩
  rcases g4 with ⟨_, he, h⟩ | ⟨h, _⟩ | ⟨_, x, post, he, hp, h⟩
  · rw [cntU_all he]
    have h : Blk w4 bc [.int .i64 ((xs.takeWhile (fun x => !pB b x)).length : Nat)] 3 := h
    rw [he] at h
    exact h
  · cases h
  · rw [cntU_at he rfl]
    have h : Blk w4 bc [.int .i64 (((xs.takeWhile (fun x => !pB b x)) ++ [x]).length : Nat)] 3 := h
    rw [List.length_append] at h
    exact h
/-- Find of the counting sequence. -/
theorem findM {W : World} {sv : Value} {xs : List I64} {bl bp bc bb : Nat} {v : Value} {b : Int} (hs : SeqOk Try.prog sv (EncD DI) xs (askX bl bp xs v) (fun k => k = bc) (askP bc) W) (hbb : Blk W bb [.int .i64 b] 3) (hne : bb ≠ bc) :
    Calls Try.prog 22 #[sv, .func (.func 16) #[] #[.pointer (some ⟨bb, 0, none⟩)]] W fun e W' => ∃ u f, e = .returned (.tuple #[.int .i64 u, .bool f]) ∧ Kept (fun k => k = bc) W W' ∧ Blk W' bc [.int .i64 (cntU b xs : Nat)] 3 ∧
      ((f = false ∧ u = 0 ∧ xs.takeWhile (fun x => !pB b x) = xs) ∨ (f = true ∧ ∃ h : (xs.takeWhile (fun x => !pB b x)).length < xs.length, u = (xs[(xs.takeWhile (fun x => !pB b x)).length]'h).1)) := by
  refine (find_atI (p := pB b) DI_one hs ⟨_, _, rfl⟩ (f16_ok hbb) (fun k h => by rw [h]; exact ⟨hbb.lt, hne⟩)).mono ?_
  rintro e w3 ⟨u, f, rfl, h3, h4⟩
  rcases h4 with ⟨rfl, rfl, hf, hP⟩ | ⟨rfl, q, x, post, hxs, hq, hp, rfl, hP⟩
  · have he : xs.takeWhile (fun x => !pB b x) = xs := by
      have hall : ∀ x ∈ xs, pB b x = false := fun x hx => by
        cases h : pB b x with
        | false => rfl
        | true => exact absurd (List.mem_filter.2 ⟨hx, h⟩) (by rw [hf]; simp)
      have := take_untilI hall []
      simpa using this
    exact ⟨0, false, rfl, h3, by rw [cntU_all he]; exact hP, .inl ⟨rfl, rfl, he⟩⟩
  · have hall : ∀ y ∈ q, pB b y = false := fun y hy => by
      cases h : pB b y with
      | false => rfl
      | true => exact absurd (List.mem_filter.2 ⟨hy, h⟩) (by rw [hq]; simp)
    have he : xs.takeWhile (fun x => !pB b x) = q := by rw [hxs, take_untilI hall, List.takeWhile_cons_of_neg (by simp [hp])]; simp
    have hlt : q.length < xs.length := by rw [hxs]; simp
    refine ⟨_, true, rfl, h3, ?_, .inr ⟨rfl, by rw [he]; exact hlt, ?_⟩⟩
    · rw [cntU_at hxs he]
      have h : Blk w3 bc [.int .i64 ((q ++ [x]).length : Nat)] 3 := hP
      rw [List.length_append] at h
      exact h
    · have : xs[q.length]? = some x := by rw [hxs]; simp
      have h2 := (List.getElem?_eq_some_iff.1 this).2
      simp only [he]
      rw [h2]
/-- List of this sequence of lists is L. -/
def LLSeq (L : List (List I64)) (sv : Value) (W : World) : Prop :=
  Calls Try.prog 23 #[sv] W fun e W' => ∃ kv vs G, e = .returned kv ∧ W'.ownsRow 0 22 1 kv L.length vs ∧ Els (EncRow 3 DI) L vs G W' ∧ Kept (fun _ => False) W W'
def runsM (k : Int) (xs : List I64) : List (List I64) := if 1 ≤ k then runsOf k.toNat xs else []
theorem runs_M {W : World} {sv : Value} {xs : List I64} {X : NSet} (hs : SeqOk Try.prog sv (EncD DI) xs X (fun _ => False) (fun _ _ _ => True) W) (k : Int) (hk : k ≤ 9223372036854775807) (hl : xs.length ≤ 10000) :
    Calls Try.prog 13 #[sv, .int .i64 k] W fun e W' => ∃ sv', e = .returned sv' ∧ LLSeq (runsM k xs) sv' W' ∧ Kept (fun _ => False) W W' := by
  unfold runsM
  by_cases h0 : 1 ≤ k
  · rw [if_pos h0]
    refine (runs_atI W sv _ h0 hs.cells).mono ?_
    rintro e w3 ⟨bn, bs, rfl, h1, h2, h3, h4, h5⟩
    rw [show k = ((k.toNat : Nat) : Int) by omega] at h1
    have hok := runs_okI (D := DI) DI_one (by omega) (by omega) (by omega) (hs.kept h3 (fun _ h => h.elim)) h1 h2 ⟨fun h => h, fun h => h⟩
    refine ⟨_, rfl, ?_, h3⟩
    refine (list_atL hok (by
      rintro x v G W ⟨h, _⟩
      obtain ⟨a, c, rfl⟩ := ownsRow_slice h
      exact ⟨rfl, rfl⟩) (by have := runsOf_cnt k.toNat xs; omega)).mono ?_
    rintro e w4 ⟨kv, vs, G, rfl, g1, g2, g3, _, g5, g6⟩
    exact ⟨kv, vs, G, rfl, g1, g2, g3⟩
  · rw [if_neg h0]
    refine (runs_lowI W sv _ (by omega)).mono ?_
    rintro e w3 ⟨b, v', rfl, h1, h2, h3, h4, h5⟩
    have hok := of_okL (D := fun _ : Unit => Value.slice none 0 0) (xs := []) h1 h2 (fun _ => rfl) (by simp)
    refine ⟨_, rfl, ?_, h3⟩
    refine (list_atL hok (encD_one (fun _ => ⟨rfl, rfl⟩)) (by simp)).mono ?_
    rintro e w4 ⟨kv, vs, G, rfl, g1, g2, g3, _, g5, g6⟩
    have := g2.encD
    subst this
    exact ⟨kv, [], G, rfl, g1, ⟨rfl, fun i x v h => by simp at h⟩, g3⟩
theorem rruns_M (W : World) (v : Value) (xs : List I64) (k : Int) (hk : k ≤ 9223372036854775807) (hv : SrcV W v (xs.map DI)) (hl : xs.length ≤ 10000) : Calls Try.prog 24 #[v, .int .i64 k] W fun e W' => ∃ kv vs G, e = .returned kv ∧ W'.ownsRow 0 22 1 kv (runsM k xs).length vs ∧ Els (EncRow 3 DI) (runsM k xs) vs G W' ∧ Kept (fun _ => False) W W' := by
  unfold runsM
  by_cases h0 : 1 ≤ k
  · rw [if_pos h0]
    have := rruns_at W v xs k.toNat (by omega) (by omega) hv (by omega)
    rw [show ((k.toNat : Nat) : Int) = k by omega] at this
    refine this.mono ?_
    rintro e w3 ⟨o, rfl, h⟩
    obtain ⟨vs, G, h1, h2, h3, _⟩ := h.els
    exact ⟨o, vs, G, rfl, h1, h2, h3⟩
  · rw [if_neg h0]
    have hv' := hv
    obtain ⟨ao, cap, rfl, hcap, _⟩ := hv
    refine (rruns_low W ao _ cap xs k (by omega) hv' (by rw [List.length_map]) (by rw [List.length_map]; omega)).mono ?_
    rintro e w3 ⟨rfl, h3⟩
    exact ⟨_, [], fun _ => False, rfl, World.ownsRow_nil _ _ _ _, ⟨rfl, fun i x v h => by simp at h⟩, h3⟩
end Go.Proofs.Ytgeffdoepcbhiaa
