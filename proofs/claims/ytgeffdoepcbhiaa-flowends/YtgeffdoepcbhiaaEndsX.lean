/-
  FlowEnds, walked.
-/
import Derived.Test.YtgeffdoepcbhiaaLawFirst
import Derived.Test.YtgeffdoepcbhiaaParts0
import Derived.Test.YtgeffdoepcbhiaaKeepI
import Derived.Test.YtgeffdoepcbhiaaFindI
import Derived.Test.YtgeffdoepcbhiaaUntilI
import Derived.Test.YtgeffdoepcbhiaaJoinI
import Derived.Test.YtgeffdoepcbhiaaMapI
namespace Go.Proofs.Ytgeffdoepcbhiaa
open Go.RowKit Go.Shelf
set_option linter.unusedSimpArgs false
set_option linter.unusedVariables false
attribute [local go_sem] Oper.semAt_some

set_option maxHeartbeats 400000 in
theorem f29 (x : I64) (w : World) : Calls Try.prog 29 #[DI x] w fun e w' => e = .returned (DI x) ∧ w = w' := by
  show Calls Try.prog 29 #[.int .i64 x.1] w _
  go_enter Try.func29, Try.ntmps29
  go_wp2
  go_ret
  exact ⟨rfl, rfl⟩
set_option maxHeartbeats 400000 in
theorem f30 (v : Value) (w : World) : Calls Try.prog 30 #[v] w fun e w' => e = .returned (.bool true) ∧ w = w' := by
  go_enter Try.func30, Try.ntmps30
  go_wp2
  go_ret
  exact ⟨rfl, rfl⟩
set_option maxHeartbeats 400000 in
theorem f32 (v : Value) (w : World) : Calls Try.prog 32 #[v] w fun e w' => e = .returned (.bool true) ∧ w = w' := by
  go_enter Try.func32, Try.ntmps32
  go_wp2
  go_ret
  exact ⟨rfl, rfl⟩
theorem f29_ok (W : World) : FnOk Try.prog (.func (.func 29) #[] #[]) (EncD DI) DI (fun x => x) (fun _ => False) W :=
  FnOk.of (enters_of Try.func29 (by kernel_rfl) rfl) (by
    rintro W' S hk hS x v G ⟨rfl, _⟩
    refine (f29 x W').mono ?_
    rintro e w' ⟨rfl, rfl⟩
    exact ⟨rfl, Kept.refl _ _⟩)
theorem f30_ok (W : World) : FnOk Try.prog (.func (.func 30) #[] #[]) (EncD DI) Value.bool (fun _ => true) (fun _ => False) W :=
  FnOk.of (enters_of Try.func30 (by kernel_rfl) rfl) (by
    rintro W' S hk hS x v G ⟨rfl, _⟩
    refine (f30 _ W').mono ?_
    rintro e w' ⟨rfl, rfl⟩
    exact ⟨rfl, Kept.refl _ _⟩)
theorem f32_ok (W : World) : FnOk Try.prog (.func (.func 32) #[] #[]) (EncD DI) Value.bool (fun _ => true) (fun _ => False) W :=
  FnOk.of (enters_of Try.func32 (by kernel_rfl) rfl) (by
    rintro W' S hk hS x v G ⟨rfl, _⟩
    refine (f32 _ W').mono ?_
    rintro e w' ⟨rfl, rfl⟩
    exact ⟨rfl, Kept.refl _ _⟩)

/-- As many came as were counted. -/
def EndJ (n ba : Nat) (bn : Nat) (at' : Int) (pre : List I64) (F : NSet) (W : World) : Prop := F = (fun k => k = bn) ∧ Blk W bn [.int .i64 (pre.length : Nat)] 3 ∧ Blk W ba [.int .i64 at'] 3 ∧ (pre.length : Int) < at'
def EndX (n ba : Nat) (bn : Nat) (at' : Int) (pre : List I64) (F : NSet) (W : World) : Prop := F = (fun k => k = bn) ∧ Blk W bn [.int .i64 (pre.length : Nat)] 3 ∧ Blk W ba [.int .i64 at'] 3 ∧ (pre.length : Int) = at'
theorem EndJ.stab {n ba bn B : Nat} {at' : Int} {C : NSet} (ha : ba < B ∧ ¬ C ba) (pre : List I64) : Stab B C (EndJ n ba bn at' pre) := by
  refine ⟨?_, ?_⟩
  · rintro F W ⟨rfl, h1, _⟩ k rfl
    exact h1.lt
  · rintro F W W' S ⟨rfl, h1, h2, h3⟩ hk hS hB
    exact ⟨rfl, hk.blk h1 (fun h => hS _ h rfl), hk.blk h2 (fun h => ha.2 (hB _ h ha.1)), h3⟩
theorem EndX.stab {n ba bn B : Nat} {at' : Int} {C : NSet} (ha : ba < B ∧ ¬ C ba) (pre : List I64) : Stab B C (EndX n ba bn at' pre) := by
  refine ⟨?_, ?_⟩
  · rintro F W ⟨rfl, h1, _⟩ k rfl
    exact h1.lt
  · rintro F W W' S ⟨rfl, h1, h2, h3⟩ hk hS hB
    exact ⟨rfl, hk.blk h1 (fun h => hS _ h rfl), hk.blk h2 (fun h => ha.2 (hB _ h ha.1)), h3⟩

set_option maxRecDepth 100000 in
set_option maxHeartbeats 1000000 in
theorem endw {n ba bn B : Nat} {at' : Int} (hne : bn ≠ ba) (ha2 : at' ≤ 100) {xs : List I64} {F0 : NSet} (hba : ba < B) :
    Takes Try.prog (EncD DI) xs B F0 (.func (.func 31) #[] #[.pointer (some ⟨bn, 0, none⟩), .pointer (some ⟨ba, 0, none⟩)]) (EndJ n ba bn at') (EndX n ba bn at') := by
  rintro pre x post F G v W hxs ⟨rfl, hbn, hba, hlt⟩ hBW hF ⟨rfl, hG0⟩ hG
  obtain ⟨i3, hi3, hz3, hs3, hb3⟩ := info_parts Try.info3
  obtain ⟨q, hq⟩ : ∃ q : Nat, q = pre.length := ⟨_, rfl⟩
  have hq' : (pre ++ [x]).length = q + 1 := by simp [hq]
  rw [← hq] at hbn hlt
  have c0 : W.cell? ⟨bn, 0, none⟩ = some (.int .i64 (q : Nat)) := hbn.cell 0
  have Hbn := hide hbn
  have Hba := hide hba
  have Hi3 := hide hi3
  have Hs3 := hide hs3
  have Hq := hide hq'
  clear hbn hba hi3 hz3 hs3 hb3 hq hq' hF hG hxs
  refine .inl ⟨_, _, rfl, enters_of Try.func31 (by kernel_rfl) rfl, ?_⟩
  show Calls Try.prog 31 #[.int .i64 x.1, .pointer (some ⟨bn, 0, none⟩), .pointer (some ⟨ba, 0, none⟩)] W _
  go_enter Try.func31, Try.ntmps31
  go_wp2_with (with_reducible refine stop_store 3 ?_)
  refine hide ?_
  refine aw_store1 (v := .int .i64 ((q : Int) + 1)) Hi3.out Hs3.out rfl rfl rfl rfl Hbn.out (by simp) ?_
  intro w2 hb2 hk2 hz2
  have hb2' : Blk w2 bn [.int .i64 ((q : Int) + 1)] 3 := hb2
  have hba2 := hk2.blk Hba.out (fun h => hne h.symm)
  have c1 : w2.cell? ⟨bn, 0, none⟩ = some (.int .i64 ((q : Int) + 1)) := hb2'.cell 0
  have c2 : w2.cell? ⟨ba, 0, none⟩ = some (.int .i64 at') := hba2.cell 0
  have Hb2 := hide hb2'
  have Hba2 := hide hba2
  have Hk2 := hide hk2
  clear hb2 hb2' hba2 hk2 hz2 c0
  try simp only [put_lit, put_none, List.set_cons_succ, List.set_cons_zero]
  have hcast : (((q + 1 : Nat) : Int)) = (q : Int) + 1 := by omega
  have Hc := hide hcast
  clear hcast
  by_cases hl : (q : Int) + 1 < at'
  · have Hfin : Hid (Handed (EndJ n ba bn at') (EndX n ba bn at') (pre ++ [x]) (fun k => k = bn) G W (.returned (.bool true)) w2) := hide ⟨fun k => k = bn, .inl ⟨rfl, rfl, by rw [Hq.out, Hc.out]; exact Hb2.out, Hba2.out, by rw [Hq.out, Hc.out]; exact hl⟩, Hk2.out.mono (fun _ _ h => .inl h), fun k h => .inl h⟩
    go_wp2
    go_ret
    first | exact Hfin.out | (rw [show decide ((q : Int) + 1 < at') = true by simpa using hl]; exact Hfin.out)
  · have hl2 : (q : Int) + 1 = at' := by omega
    have Hfin : Hid (Handed (EndJ n ba bn at') (EndX n ba bn at') (pre ++ [x]) (fun k => k = bn) G W (.returned (.bool false)) w2) := hide ⟨fun k => k = bn, .inr ⟨rfl, rfl, by rw [Hq.out, Hc.out]; exact Hb2.out, Hba2.out, by rw [Hq.out, Hc.out]; exact hl2⟩, Hk2.out.mono (fun _ _ h => .inl h), fun k h => .inl h⟩
    clear hl2
    go_wp2
    go_ret
    first | exact Hfin.out | (rw [show decide ((q : Int) + 1 < at') = false by simpa using hl]; exact Hfin.out)

/-- A call of a function, by its value. -/
theorem aw_yc1 {P : Program} {ops : Array Oper} {Q : Exit → Act → World → Prop} {a : Act} {w : World} {rest : List Oper} {d : Nat} {ty : TypeId} {pos : String} {aft : Array Edge} {x y : Operand} {ts : Array TypeId} {g : Nat} {lb : Array Value} {vy : Value} {R : Ending → World → Prop} (hx : a.eval x = .func (.func g) #[] lb) (hy : a.eval y = vy) (hc : YC P (.func (.func g) #[] lb) #[vy] w R)
    (h : ∀ e w', R e w' → ∃ v, e = .returned v ∧ wpList P ops Q rest (a.put (some d) v) w') :
    wpList P ops Q (⟨some d, .call { callee := .value x, args := #[y], argTypes := ts }, ty, pos, aft, none⟩ :: rest) a w := by
  rcases hc with ⟨gf, lb', he, eg, hc⟩ | ⟨l, he, hc⟩
  · cases he
    refine wpList_plain rfl fun K hK => ?_
    unfold Oper.wp
    rw [run_cF1 a.eval hx hy eg]
    refine hc.mono ?_
    rintro e w' hR
    obtain ⟨v, rfl, h2⟩ := h e w' hR
    exact hK _ _ h2
  · cases he
theorem stop_val1 {P : Program} {ops : Array Oper} {Q : Exit → Act → World → Prop} {a : Act} {w : World} {rest : List Oper} {dst : Option Tmp} {ty : TypeId} {pos : String} {aft : Array Edge} {ts : Array TypeId} {t : Nat} {aq : Array Operand} (h : Hid (wpList P ops Q (⟨dst, .call { callee := .value (.tmp t), args := aq, argTypes := ts }, ty, pos, aft, none⟩ :: rest) a w)) : wpList P ops Q (⟨dst, .call { callee := .value (.tmp t), args := aq, argTypes := ts }, ty, pos, aft, none⟩ :: rest) a w := h.out

/-- A sequence of xs that changes nothing. -/
def SeqU (xs : List I64) (sv : Value) (W : World) : Prop := (∃ g lb, sv = .func (.func g) #[] lb) ∧ ∃ X Post, SeqOk Try.prog sv (EncD DI) xs X (fun _ => False) Post W
theorem SeqU.isFn {xs : List I64} {sv : Value} {W : World} (h : SeqU xs sv W) : IsFn sv := by
  obtain ⟨⟨g, lb, rfl⟩, _⟩ := h
  exact ⟨_, _, rfl⟩
theorem SeqU.kept {xs : List I64} {sv : Value} {W W' : World} (h : SeqU xs sv W) (hk : Kept (fun _ => False) W W') : SeqU xs sv W' := by
  obtain ⟨hf, X, Post, h⟩ := h
  exact ⟨hf, X, Post, h.kept hk (fun _ h => h.elim)⟩
/-- One of them, told to end behind at' of them. -/
theorem seqU_ends {xs : List I64} {sv : Value} {W : World} {bn ba : Nat} {at' : Int} (ha1 : 1 ≤ at') (ha2 : at' ≤ 100) (hbn : Blk W bn [.int .i64 0] 3) (hba : Blk W ba [.int .i64 at'] 3) (hne : bn ≠ ba) (W0 : World) (hk0 : Kept (fun _ => False) W0 W) (hU : SeqU xs sv W0) (hb0 : W0.heap.size ≤ bn) :
    YC Try.prog sv #[.func (.func 31) #[] #[.pointer (some ⟨bn, 0, none⟩), .pointer (some ⟨ba, 0, none⟩)]] W (fun e W' => (∃ v, e = .returned v) ∧ Kept (fun k => k = bn) W W' ∧ Blk W' bn [.int .i64 (min at' (xs.length : Int))] 3) := by
  have hf := hU.isFn
  obtain ⟨_, X, Post, hs⟩ := hU
  have hs' := hs.kept hk0 (fun _ h => h.elim)
  refine (hs'.run hf W _ (Kept.refl (fun _ => False) W) (fun _ h => h.elim) _ (EndJ 0 ba bn at') (EndX 0 ba bn at') (fun k => k = bn) ⟨_, _, rfl⟩ (EndJ.stab ⟨hba.lt, fun h => h⟩) (EndX.stab ⟨hba.lt, fun h => h⟩) (fun k hk => ⟨fun hx => by have := hs.lt k (.inl hx); omega, fun h => h⟩) (endw hne ha2 hba.lt) ⟨rfl, hbn, hba, by simp; omega⟩).mono ?_
  rintro e W' ⟨he, b, hk, hcase⟩
  refine ⟨he, hk.mono (fun _ _ h => h.elim id (fun h => h.elim)), ?_⟩
  rcases hcase with ⟨rfl, F', ⟨_, h1, _, h2⟩, _⟩ | ⟨rfl, pre, F', ⟨post, hpre⟩, ⟨_, h1, _, h2⟩, _⟩
  · rw [show min at' (xs.length : Int) = ((xs.length : Nat) : Int) by omega]; exact h1
  · have : (pre.length : Int) ≤ xs.length := by rw [hpre, List.length_append]; omega
    rw [show min at' (xs.length : Int) = ((pre.length : Nat) : Int) by omega]; exact h1

set_option maxRecDepth 100000 in
set_option maxHeartbeats 1000000 in
theorem ends_out (w : World) (ao : Option Addr) (len cap : Nat) (n : Int) (hl : len ≤ 4611686018427387903) (h : 100 < len) : Calls Try.prog 5 #[.slice ao len cap, .int .u8 n] w fun e w' => e = .returned (.bool true) ∧ Kept (fun _ => False) w w' := by
  go_enter Try.func5, Try.ntmps5
  go_wp2_with fail
  refine (first_law w).mono ?_
  rintro e w1 ⟨rfl, hk1⟩
  go_wp2
  go_ret
  exact ⟨rfl, hk1⟩

/-- The sequence of a list, and what it stands for. -/
theorem of_U (w : World) (v : Value) (xs : List I64) (hv : SrcV w v (xs.map DI)) (hl : xs.length ≤ 1000000) : Calls Try.prog 11 #[v] w fun e w' => ∃ b, e = .returned (.func (.func 43) #[] #[.pointer (some ⟨b, 0, none⟩)]) ∧ (∃ X, SeqOk Try.prog (.func (.func 43) #[] #[.pointer (some ⟨b, 0, none⟩)]) (EncD DI) xs X (fun _ => False) (fun _ _ _ => True) w') ∧ Kept (fun _ => False) w w' := by
  refine (of_atI w v _ hv (DI_ones xs) (by rw [List.length_map]; exact hl)).mono ?_
  rintro e w2 ⟨b, v', rfl, h1, h2, h3, h4, h5⟩
  rw [List.length_map] at h2
  exact ⟨b, rfl, ⟨_, of_okI (D := DI) (xs := xs) h1 h2 (fun x => (DI_one x).1) hl⟩, h3⟩

theorem map_U {W : World} {sv : Value} {xs : List I64} {X : NSet} {Post : Bool → List I64 → World → Prop} (hs : SeqOk Try.prog sv (EncD DI) xs X (fun _ => False) Post W) : Calls Try.prog 25 #[sv, .func (.func 29) #[] #[]] W fun e W' => ∃ sv', e = .returned sv' ∧ SeqU xs sv' W' ∧ Kept (fun _ => False) W W' := by
  refine (map_atI W sv _ hs.cells ⟨_, _, rfl⟩).mono ?_
  rintro e w3 ⟨bs3, bi3, rfl, h1, h2, h3, h4, h5⟩
  have := map_okI (f := fun x : I64 => x) (D := DI) (hs.kept h3 (fun _ h => h.elim)) ⟨_, _, rfl⟩ (f29_ok w3) (fun _ h => h.elim) h1 h2 ⟨fun h => h, fun h => h⟩
  rw [List.map_id'] at this
  exact ⟨_, rfl, ⟨⟨_, _, rfl⟩, _, _, this⟩, h3⟩
theorem keep_U {W : World} {sv : Value} {xs : List I64} {X : NSet} {Post : Bool → List I64 → World → Prop} (hs : SeqOk Try.prog sv (EncD DI) xs X (fun _ => False) Post W) : Calls Try.prog 10 #[sv, .func (.func 30) #[] #[]] W fun e W' => ∃ sv', e = .returned sv' ∧ SeqU xs sv' W' ∧ Kept (fun _ => False) W W' := by
  refine (keep_atI W sv _ hs.cells ⟨_, _, rfl⟩).mono ?_
  rintro e w3 ⟨bs3, bi3, rfl, h1, h2, h3, h4, h5⟩
  have := keep_okI (p := fun _ : I64 => true) (hs.kept h3 (fun _ h => h.elim)) ⟨_, _, rfl⟩ (f30_ok w3) (fun _ h => h.elim) h1 h2 ⟨fun h => h, fun h => h⟩
  rw [List.filter_eq_self.2 (fun _ _ => rfl)] at this
  exact ⟨_, rfl, ⟨⟨_, _, rfl⟩, _, _, this⟩, h3⟩
theorem first_U {W : World} {sv : Value} {xs : List I64} {X : NSet} {Post : Bool → List I64 → World → Prop} (hs : SeqOk Try.prog sv (EncD DI) xs X (fun _ => False) Post W) (len : Nat) (hlen : len = xs.length) (hl : len ≤ 1000000) : Calls Try.prog 17 #[sv, .int .i64 (len : Nat)] W fun e W' => ∃ sv', e = .returned sv' ∧ SeqU xs sv' W' ∧ Kept (fun _ => False) W W' := by
  by_cases h0 : 1 ≤ len
  · refine (first_atI W sv _ (by omega) hs.cells).mono ?_
    rintro e w3 ⟨bn, bs, rfl, h1, h2, h3, h4, h5⟩
    have := first_okI (by omega) (by omega) (hs.kept h3 (fun _ h => h.elim)) h1 h2 ⟨fun h => h, fun h => h⟩
    rw [List.take_of_length_le (by omega)] at this
    exact ⟨_, rfl, ⟨⟨_, _, rfl⟩, _, _, this⟩, h3⟩
  · refine (first_lowI W sv _ (by omega)).mono ?_
    rintro e w3 ⟨b, v', rfl, h1, h2, h3, h4, h5⟩
    obtain rfl : xs = [] := List.eq_nil_of_length_eq_zero (by omega)
    exact ⟨_, rfl, ⟨⟨_, _, rfl⟩, _, _, of_okI (D := DI) (xs := []) h1 h2 (fun x => (DI_one x).1) (by simp)⟩, h3⟩
theorem join_U {W : World} {v s1 s2 : Value} {xs : List I64} {X1 X2 : NSet} (hs1 : SeqOk Try.prog s1 (EncD DI) xs X1 (fun _ => False) (fun _ _ _ => True) W) (hs2 : SeqOk Try.prog s2 (EncD DI) [] X2 (fun _ => False) (fun _ _ _ => True) W) (hf1 : IsFn s1) (hf2 : IsFn s2) (hv : SrcV W v [s1, s2]) : Calls Try.prog 27 #[v] W fun e W' => ∃ sv', e = .returned sv' ∧ SeqU xs sv' W' ∧ Kept (fun _ => False) W W' := by
  have hone : ∀ u ∈ [s1, s2], u.oneCell' = true := fun u hu => by
    obtain ⟨_, _, rfl⟩ := hf1
    obtain ⟨_, _, rfl⟩ := hf2
    simp at hu
    rcases hu with rfl | rfl <;> rfl
  refine (join_atI W v _ hv hone (by simp)).mono ?_
  rintro e w3 ⟨b, v', rfl, h1, h2, h3, h4, h5⟩
  have hX : ∀ k, X1 k ∨ X2 k → k < W.heap.size := fun k h => h.elim (fun h => hs1.lt k (.inl h)) (fun h => hs2.lt k (.inl h))
  have hsq : SeqsI (EncD DI) [s1, s2] [xs, []] (fun k => X1 k ∨ X2 k) w3 := ⟨rfl, fun i sv ys hi hy => by
    match i with
    | 0 => simp at hi hy; subst hi hy; exact (hs1.widen (fun k h => .inl h) (fun k h => ⟨hX k h, fun h => h⟩)).kept h3 (fun _ h => h.elim)
    | 1 => simp at hi hy; subst hi hy; exact (hs2.widen (fun k h => .inr h) (fun k h => ⟨hX k h, fun h => h⟩)).kept h3 (fun _ h => h.elim)
    | i + 2 => simp at hi⟩
  have := join_okI (EncD.ok _ _) hsq (fun k h => Nat.lt_of_lt_of_le (hX k h) h3.size) (by simp) h1 h2
  rw [show [xs, []].flatten = xs by simp] at this
  exact ⟨_, rfl, ⟨⟨_, _, rfl⟩, _, _, this⟩, h3⟩
theorem until_U {W : World} {sv : Value} {xs : List I64} {X : NSet} {Post : Bool → List I64 → World → Prop} (hs : SeqOk Try.prog sv (EncD DI) xs X (fun _ => False) Post W) : Calls Try.prog 20 #[sv, .nilFunc] W fun e W' => ∃ sv', e = .returned sv' ∧ SeqU xs sv' W' ∧ Kept (fun _ => False) W W' := by
  refine (until_atI W sv _ hs.cells rfl).mono ?_
  rintro e w3 ⟨bs3, bi3, rfl, h1, h2, h3, h4, h5⟩
  have := until_okI (p := fun _ : I64 => false) (Xf := fun _ => False) (hs.kept h3 (fun _ h => h.elim)) (.inl ⟨rfl, fun _ => rfl⟩) (fun _ h => h.elim) h1 h2 ⟨fun h => h, fun h => h⟩
  rw [show xs.takeWhile (fun x => !(fun _ : I64 => false) x) = xs by have := take_untilI (p := fun _ : I64 => false) (pre := xs) (fun _ _ => rfl) []; simpa using this] at this
  exact ⟨_, rfl, ⟨⟨_, _, rfl⟩, _, _, this⟩, h3⟩

set_option maxRecDepth 100000 in
set_option maxHeartbeats 4000000 in
theorem ends_in (w : World) (v : Value) (xs : List I64) (n : Int) (hv : SrcV w v (xs.map DI)) (hl : xs.length ≤ 100) (hn : 0 ≤ n ∧ n ≤ 255) : Calls Try.prog 5 #[v, .int .u8 n] w fun e w' => e = .returned (.bool true) ∧ Kept (fun _ => False) w w' := by
  have HV := hide hv
  obtain ⟨ao, cap, rfl, hcap, hsrc, hnil⟩ := hv
  obtain ⟨i3, hi3, hz3, hs3, hb3⟩ := info_parts Try.info3
  obtain ⟨i27, hi27, hz27, hs27, hb27⟩ := info_parts Try.info27
  obtain ⟨i26, hi26, hz26, hs26, hb26⟩ := info_parts Try.info26
  have Hi3 := hide hi3
  have Hz3 := hide hz3
  have Hs3 := hide hs3
  have Hi27 := hide hi27
  have Hz27 := hide hz27
  have Hs27 := hide hs27
  have Hi26 := hide hi26
  have Hz26 := hide hz26
  have Hs26 := hide hs26
  obtain ⟨len, hlen⟩ : ∃ len, len = (xs.map DI).length := ⟨_, rfl⟩
  rw [← hlen] at HV ⊢
  have hll : len = xs.length := by rw [hlen, List.length_map]
  have Hll := hide hll
  have hl2 : len ≤ 100 := by omega
  have hxl : Hid (xs.length ≤ 1000000) := hide (by omega)
  clear hcap hsrc hnil hi3 hz3 hs3 hb3 hi27 hz27 hs27 hb27 hi26 hz26 hs26 hb26 hlen hll hl
  go_enter Try.func5, Try.ntmps5
  go_wp2_with fail
  refine (first_law w).mono ?_
  rintro e w1 ⟨rfl, hk1⟩
  have Hk1 := hide hk1
  clear hk1
  go_wp2_with (first
    | ((with_reducible refine aw_alloc (t := 3) Hi3.out Hz3.out ?_); intro w2 hb2 hk2 hz2; have Hb2 := hide hb2; have Hk2 := hide hk2; have Hz2 := hide hz2; clear hb2 hk2 hz2)
    | (with_reducible refine stop_store 3 ?_))
  refine hide ?_
  refine aw_store1 (v := .int .i64 (1 + n % 6)) Hi3.out Hs3.out rfl rfl rfl rfl Hb2.out (by simp [Value.cells]) ?_
  intro w3 hb3 hk3 hz3
  obtain ⟨at', hat⟩ : ∃ at', at' = 1 + n % 6 := ⟨_, rfl⟩
  have hat1 : 1 ≤ at' := by omega
  have hat2 : at' ≤ 100 := by omega
  obtain ⟨ba, hba⟩ : ∃ ba, ba = w1.heap.size := ⟨_, rfl⟩
  have HBa_3 : Hid (Blk w3 ba [.int .i64 at'] 3) := hide (by rw [hba, hat]; exact hb3)
  have Hk3 : Hid (Kept (fun _ => False) w w3) := hide ((Hk1.out.trans Hk2.out (fun _ _ h => h)).trans hk3 (fun k hk h => by have := Hk1.out.size; omega))
  rw [← hat, ← hba]
  clear hb3 hk3 hz3 hat hba Hk1 Hb2 Hk2 Hz2
  simp only [put_lit, put_none, List.set_cons_succ, List.set_cons_zero]
  go_wp2_with fail
  refine (of_U w3 _ xs (HV.out.kept Hk3.out (fun _ _ h => h)) hxl.out).mono ?_
  rintro e w4 ⟨b4, rfl, ⟨X4, hs4⟩, hk4⟩
  have HS4 := hide hs4
  have Hk4 := hide (Hk3.out.trans hk4 (fun _ _ h => h))
  have HBa_4 := hide (hk4.blk HBa_3.out (fun h => h))
  clear HBa_3
  clear hs4 hk4 Hk3
  have U1_4 : Hid (SeqU xs _ w4) := hide ⟨⟨_, _, rfl⟩, _, _, HS4.out⟩
  go_wp2_with fail
  refine (of_U w4 _ xs (HV.out.kept Hk4.out (fun _ _ h => h)) hxl.out).mono ?_
  rintro e w5 ⟨b5, rfl, ⟨X5, hs5⟩, hk5⟩
  have HS5 := hide hs5
  have Hk5 := hide (Hk4.out.trans hk5 (fun _ _ h => h))
  have HBa_5 := hide (hk5.blk HBa_4.out (fun h => h))
  clear HBa_4
  have U1_5 := hide (U1_4.out.kept hk5)
  clear U1_4
  clear hs5 hk5 Hk4
  go_wp2_with fail
  refine (map_U HS5.out).mono ?_
  rintro e w6 ⟨s6, rfl, hu6, hk6⟩
  have U2_6 := hide hu6
  obtain ⟨⟨g6, l6, rfl⟩, _⟩ := hu6
  have Hk6 := hide (Hk5.out.trans hk6 (fun _ _ h => h))
  have HBa_6 := hide (hk6.blk HBa_5.out (fun h => h))
  clear HBa_5
  have U1_6 := hide (U1_5.out.kept hk6)
  clear U1_5
  clear hk6 Hk5
  go_wp2_with fail
  refine (of_U w6 _ xs (HV.out.kept Hk6.out (fun _ _ h => h)) hxl.out).mono ?_
  rintro e w7 ⟨b7, rfl, ⟨X7, hs7⟩, hk7⟩
  have HS7 := hide hs7
  have Hk7 := hide (Hk6.out.trans hk7 (fun _ _ h => h))
  have HBa_7 := hide (hk7.blk HBa_6.out (fun h => h))
  clear HBa_6
  have U1_7 := hide (U1_6.out.kept hk7)
  clear U1_6
  have U2_7 := hide (U2_6.out.kept hk7)
  clear U2_6
  clear hs7 hk7 Hk6
  go_wp2_with fail
  refine (keep_U HS7.out).mono ?_
  rintro e w8 ⟨s8, rfl, hu8, hk8⟩
  have U3_8 := hide hu8
  obtain ⟨⟨g8, l8, rfl⟩, _⟩ := hu8
  have Hk8 := hide (Hk7.out.trans hk8 (fun _ _ h => h))
  have HBa_8 := hide (hk8.blk HBa_7.out (fun h => h))
  clear HBa_7
  have U1_8 := hide (U1_7.out.kept hk8)
  clear U1_7
  have U2_8 := hide (U2_7.out.kept hk8)
  clear U2_7
  clear hk8 Hk7
  go_wp2_with fail
  refine (of_U w8 _ xs (HV.out.kept Hk8.out (fun _ _ h => h)) hxl.out).mono ?_
  rintro e w9 ⟨b9, rfl, ⟨X9, hs9⟩, hk9⟩
  have HS9 := hide hs9
  have Hk9 := hide (Hk8.out.trans hk9 (fun _ _ h => h))
  have HBa_9 := hide (hk9.blk HBa_8.out (fun h => h))
  clear HBa_8
  have U1_9 := hide (U1_8.out.kept hk9)
  clear U1_8
  have U2_9 := hide (U2_8.out.kept hk9)
  clear U2_8
  have U3_9 := hide (U3_8.out.kept hk9)
  clear U3_8
  clear hs9 hk9 Hk8
  go_wp2_with fail
  refine (first_U HS9.out len Hll.out (by omega)).mono ?_
  rintro e w10 ⟨s10, rfl, hu10, hk10⟩
  have U4_10 := hide hu10
  obtain ⟨⟨g10, l10, rfl⟩, _⟩ := hu10
  have Hk10 := hide (Hk9.out.trans hk10 (fun _ _ h => h))
  have HBa_10 := hide (hk10.blk HBa_9.out (fun h => h))
  clear HBa_9
  have U1_10 := hide (U1_9.out.kept hk10)
  clear U1_9
  have U2_10 := hide (U2_9.out.kept hk10)
  clear U2_9
  have U3_10 := hide (U3_9.out.kept hk10)
  clear U3_9
  clear hk10 Hk9
  go_wp2_with fail
  refine (of_U w10 _ xs (HV.out.kept Hk10.out (fun _ _ h => h)) hxl.out).mono ?_
  rintro e w11 ⟨b11, rfl, ⟨X11, hs11⟩, hk11⟩
  have HS11 := hide hs11
  have Hk11 := hide (Hk10.out.trans hk11 (fun _ _ h => h))
  have HBa_11 := hide (hk11.blk HBa_10.out (fun h => h))
  clear HBa_10
  have U1_11 := hide (U1_10.out.kept hk11)
  clear U1_10
  have U2_11 := hide (U2_10.out.kept hk11)
  clear U2_10
  have U3_11 := hide (U3_10.out.kept hk11)
  clear U3_10
  have U4_11 := hide (U4_10.out.kept hk11)
  clear U4_10
  clear hs11 hk11 Hk10
  go_wp2_with fail
  refine (of_U w11 (.slice none 0 0) [] ⟨none, 0, rfl, by simp, fun h => by simp at h, fun _ => rfl⟩ (by simp)).mono ?_
  rintro e w12 ⟨b12, rfl, ⟨X12, hs12⟩, hk12⟩
  have HS12 := hide hs12
  have Hk12 := hide (Hk11.out.trans hk12 (fun _ _ h => h))
  have HBa_12 := hide (hk12.blk HBa_11.out (fun h => h))
  clear HBa_11
  have HT12 := hide (HS11.out.kept hk12 (fun _ h => h.elim))
  have U1_12 := hide (U1_11.out.kept hk12)
  clear U1_11
  have U2_12 := hide (U2_11.out.kept hk12)
  clear U2_11
  have U3_12 := hide (U3_11.out.kept hk12)
  clear U3_11
  have U4_12 := hide (U4_11.out.kept hk12)
  clear U4_11
  clear hs12 hk12 Hk11
  go_wp2_with (with_reducible refine stop_bs 68 ?_)
  refine hide ?_
  refine wpList_run rfl (run_bs1 Try.underlying68 Hi27.out Hz27.out Hs27.out [(Value.func (.func 43) #[] #[.pointer (some ⟨b11, 0, none⟩)]), (Value.func (.func 43) #[] #[.pointer (some ⟨b12, 0, none⟩)])] rfl (by simp) (by simp [Value.cells]) rfl) ?_
  have hbA := Blk.new w12 [(Value.func (.func 43) #[] #[.pointer (some ⟨b11, 0, none⟩)]), (Value.func (.func 43) #[] #[.pointer (some ⟨b12, 0, none⟩)])] 27
  have hk13 : Kept (fun _ => False) w12 (w12.alloc (.cells [(Value.func (.func 43) #[] #[.pointer (some ⟨b11, 0, none⟩)]), (Value.func (.func 43) #[] #[.pointer (some ⟨b12, 0, none⟩)])].toArray 27)) := Kept.alloc _ _ _
  generalize w12.alloc (.cells [(Value.func (.func 43) #[] #[.pointer (some ⟨b11, 0, none⟩)]), (Value.func (.func 43) #[] #[.pointer (some ⟨b12, 0, none⟩)])].toArray 27) = w13 at hbA hk13
  have HA13 : Hid (SrcV w13 (.slice (some ⟨w12.heap.size, 0, none⟩) 2 2) [(Value.func (.func 43) #[] #[.pointer (some ⟨b11, 0, none⟩)]), (Value.func (.func 43) #[] #[.pointer (some ⟨b12, 0, none⟩)])]) := hide ⟨_, 2, rfl, by simp, fun _ => ⟨_, 0, rfl, by have := hbA.cells 0 2; simpa using this⟩, fun h => by cases h⟩
  have Hk13 := hide (Hk12.out.trans hk13 (fun _ _ h => h))
  have HBa_13 := hide (hk13.blk HBa_12.out (fun h => h))
  clear HBa_12
  have HS1 := hide (HT12.out.kept hk13 (fun _ h => h.elim))
  have HS2 := hide (HS12.out.kept hk13 (fun _ h => h.elim))
  have U1_13 := hide (U1_12.out.kept hk13)
  clear U1_12
  have U2_13 := hide (U2_12.out.kept hk13)
  clear U2_12
  have U3_13 := hide (U3_12.out.kept hk13)
  clear U3_12
  have U4_13 := hide (U4_12.out.kept hk13)
  clear U4_12
  clear hbA hk13 Hk12
  simp only [put_lit, List.set_cons_succ, List.set_cons_zero]
  go_wp2_with fail
  refine (join_U HS1.out HS2.out ⟨_, _, rfl⟩ ⟨_, _, rfl⟩ HA13.out).mono ?_
  rintro e w14 ⟨s14, rfl, hu14, hk14⟩
  have U5_14 := hide hu14
  obtain ⟨⟨g14, l14, rfl⟩, _⟩ := hu14
  have Hk14 := hide (Hk13.out.trans hk14 (fun _ _ h => h))
  have HBa_14 := hide (hk14.blk HBa_13.out (fun h => h))
  clear HBa_13
  have U1_14 := hide (U1_13.out.kept hk14)
  clear U1_13
  have U2_14 := hide (U2_13.out.kept hk14)
  clear U2_13
  have U3_14 := hide (U3_13.out.kept hk14)
  clear U3_13
  have U4_14 := hide (U4_13.out.kept hk14)
  clear U4_13
  clear hk14 Hk13
  go_wp2_with fail
  refine (of_U w14 _ xs (HV.out.kept Hk14.out (fun _ _ h => h)) hxl.out).mono ?_
  rintro e w15 ⟨b15, rfl, ⟨X15, hs15⟩, hk15⟩
  have HS15 := hide hs15
  have Hk15 := hide (Hk14.out.trans hk15 (fun _ _ h => h))
  have HBa_15 := hide (hk15.blk HBa_14.out (fun h => h))
  clear HBa_14
  have U1_15 := hide (U1_14.out.kept hk15)
  clear U1_14
  have U2_15 := hide (U2_14.out.kept hk15)
  clear U2_14
  have U3_15 := hide (U3_14.out.kept hk15)
  clear U3_14
  have U4_15 := hide (U4_14.out.kept hk15)
  clear U4_14
  have U5_15 := hide (U5_14.out.kept hk15)
  clear U5_14
  clear hs15 hk15 Hk14
  go_wp2_with fail
  refine (until_U HS15.out).mono ?_
  rintro e w16 ⟨s16, rfl, hu16, hk16⟩
  have U6_16 := hide hu16
  obtain ⟨⟨g16, l16, rfl⟩, _⟩ := hu16
  have Hk16 := hide (Hk15.out.trans hk16 (fun _ _ h => h))
  have HBa_16 := hide (hk16.blk HBa_15.out (fun h => h))
  clear HBa_15
  have U1_16 := hide (U1_15.out.kept hk16)
  clear U1_15
  have U2_16 := hide (U2_15.out.kept hk16)
  clear U2_15
  have U3_16 := hide (U3_15.out.kept hk16)
  clear U3_15
  have U4_16 := hide (U4_15.out.kept hk16)
  clear U4_15
  have U5_16 := hide (U5_15.out.kept hk16)
  clear U5_15
  clear hk16 Hk15
  obtain ⟨svs, hsvs⟩ : ∃ svs, svs = [(Value.func (.func 43) #[] #[.pointer (some ⟨b4, 0, none⟩)]), (Value.func (.func g6) #[] l6), (Value.func (.func g8) #[] l8), (Value.func (.func g10) #[] l10), (Value.func (.func g14) #[] l14), (Value.func (.func g16) #[] l16)] := ⟨_, rfl⟩
  have Hsv : Hid (svs.length = 6 ∧ ∀ k, k < 6 → ∃ g lb, svs[k]? = some (.func (.func g) #[] lb) ∧ SeqU xs (.func (.func g) #[] lb) w16) := hide ⟨by rw [hsvs]; rfl, fun k hk => by
    rw [hsvs]
    match k, hk with
    | 0, _ => exact ⟨_, _, rfl, U1_16.out⟩
    | 1, _ => exact ⟨_, _, rfl, U2_16.out⟩
    | 2, _ => exact ⟨_, _, rfl, U3_16.out⟩
    | 3, _ => exact ⟨_, _, rfl, U4_16.out⟩
    | 4, _ => exact ⟨_, _, rfl, U5_16.out⟩
    | 5, _ => exact ⟨_, _, rfl, U6_16.out⟩
    | k + 6, h => omega⟩
  go_wp2_with (with_reducible refine stop_bs 54 ?_)
  refine hide ?_
  refine wpList_run rfl (run_bs1 Try.underlying54 Hi26.out Hz26.out Hs26.out [(Value.func (.func 43) #[] #[.pointer (some ⟨b4, 0, none⟩)]), (Value.func (.func g6) #[] l6), (Value.func (.func g8) #[] l8), (Value.func (.func g10) #[] l10), (Value.func (.func g14) #[] l14), (Value.func (.func g16) #[] l16)] rfl (by simp) (by simp [Value.cells]) rfl) ?_
  rw [← hsvs]
  have hbA := Blk.new w16 svs 26
  have hk17 : Kept (fun _ => False) w16 (w16.alloc (.cells svs.toArray 26)) := Kept.alloc _ _ _
  generalize w16.alloc (.cells svs.toArray 26) = w17 at hbA hk17
  have Hk17 := hide (Hk16.out.trans hk17 (fun _ _ h => h))
  have HBa := hide (hk17.blk HBa_16.out (fun h => h))
  have HBA := hide hbA
  have HSV : Hid (∀ k, k < 6 → ∃ g lb, svs[k]? = some (.func (.func g) #[] lb) ∧ SeqU xs (.func (.func g) #[] lb) w17) := hide (fun k hk => by
    obtain ⟨g, lb, h1, h2⟩ := Hsv.out.2 k hk
    exact ⟨g, lb, h1, h2.kept hk17⟩)
  have hlt17 := hbA.lt
  clear hbA hk17 Hk16 HBa_16 U1_16 U2_16 U3_16 U4_16 U5_16 U6_16 hsvs Hsv
  simp only [put_lit, List.set_cons_succ, List.set_cons_zero]
  go_wp2
  go_loopw [46] (fun i wr => ∃ k : Nat, i = .int .i64 k ∧ k ≤ 6 ∧ Hid (Kept (fun _ => False) w17 wr)) (fun i _ => 6 - (intOf i).toNat)
  case atStart => exact ⟨0, rfl, Nat.zero_le _, hide (Kept.refl _ _)⟩
  case round =>
    obtain ⟨k, rfl, hk, hKk⟩ := hrel
    by_cases hlt : k < 6
    · obtain ⟨g, lb, hsv, hU⟩ := HSV.out k hlt
      have hcs := hKk.out.blk HBA.out (fun h => h)
      have c0 : wr.cell? ⟨w16.heap.size, k, none⟩ = some (.func (.func g) #[] lb) := by rw [hcs.cell]; exact hsv
      have HU := hide hU
      clear hcs hsv hU
      go_wp2_with (first
        | ((with_reducible refine aw_alloc (t := 3) Hi3.out Hz3.out ?_); intro v1 hb1 hk1 hz1; have Hb1 := hide hb1; have Hk1 := hide hk1; clear hb1 hk1 hz1 c0)
        | (with_reducible refine stop_store 3 ?_))
      refine hide ?_
      refine aw_store1 (v := .int .i64 0) Hi3.out Hs3.out rfl rfl rfl rfl Hb1.out (by simp [Value.cells]) ?_
      intro v2 hb2 hk2 hz2
      have hk02 : Kept (fun _ => False) wr v2 := Hk1.out.trans hk2 (fun k hk h => by omega)
      have hkw2 := hKk.out.trans hk02 (fun _ _ h => h)
      have hba2 := hkw2.blk HBa.out (fun h => h)
      have hszr := hKk.out.size
      have hne : wr.heap.size ≠ ba := by have := HBa.out.lt; omega
      have Hyc := hide (seqU_ends hat1 hat2 hb2 hba2 hne w17 hkw2 HU.out hszr)
      have Hk02 := hide hk02
      have Hba2 := hide hba2
      have Hne := hide hne
      clear hb2 hk2 hz2 hk02 hkw2 hba2 hne
      try simp only [put_lit, put_none, List.set_cons_succ, List.set_cons_zero]
      go_wp2_with (with_reducible refine stop_val1 ?_)
      refine hide ?_
      try simp only [put_lit, put_none, List.set_cons_succ, List.set_cons_zero]
      refine aw_yc1 (g := g) (lb := lb) (vy := .func (.func 31) #[] #[.pointer (some ⟨wr.heap.size, 0, none⟩), .pointer (some ⟨ba, 0, none⟩)]) rfl rfl Hyc.out ?_
      rintro e v3 ⟨⟨u, rfl⟩, hk3, hb3⟩
      refine ⟨u, rfl, ?_⟩
      have c1 : v3.cell? ⟨ba, 0, none⟩ = some (.int .i64 at') := (hk3.blk Hba2.out (fun h => Hne.out h.symm)).cell 0
      have hK3 := hKk.out.trans (Hk02.out.trans (hk3.mono (fun _ _ h => h) : Kept (fun k => k = wr.heap.size) v2 v3) (fun k hk h => by omega)) (fun _ _ h => h)
      have HK3 := hide hK3
      rw [← Hll.out] at hb3
      try simp only [put_lit, put_none, List.set_cons_succ, List.set_cons_zero]
      by_cases hmin : at' ≤ (len : Int)
      · rw [show min at' (len : Int) = at' by omega] at hb3
        have c2 : v3.cell? ⟨wr.heap.size, 0, none⟩ = some (.int .i64 at') := hb3.cell 0
        clear hb3 hk3 hK3
        go_wp2
        go_roundw
        case rel => exact ⟨k + 1, by simp, by omega, HK3⟩
        case measure => simp [intOf]; omega
      · rw [show min at' (len : Int) = (len : Int) by omega] at hb3
        have c2 : v3.cell? ⟨wr.heap.size, 0, none⟩ = some (.int .i64 (len : Int)) := hb3.cell 0
        clear hb3 hk3 hK3
        go_wp2
        go_roundw
        case rel => exact ⟨k + 1, by simp, by omega, HK3⟩
        case measure => simp [intOf]; omega
    · obtain rfl : k = 6 := by omega
      have HkR : Hid (Kept (fun _ => False) w wr) := hide (Hk17.out.trans hKk.out (fun _ _ h => h))
      clear hKk Hk17 HSV HBA HBa hlt
      go_wp2_with fail
      refine (find_atI (p := fun _ => true) (D := DI) DI_one (SeqOk.nil Try.prog (EncD DI) (fun _ => False) (EncD.ok _ _) wr (fun _ h => h.elim)) ⟨_, _, rfl⟩ (f32_ok wr) (fun _ h => h.elim)).mono ?_
      rintro e y1 ⟨fv, fb, rfl, hk1, hfound⟩
      obtain ⟨rfl, rfl⟩ : fb = false ∧ fv = .int .i64 0 := by
        rcases hfound with ⟨h1, h2, _⟩ | ⟨_, q, x, post, h, _⟩
        · exact ⟨h1, h2⟩
        · simp at h
      have HK1 := hide (HkR.out.trans hk1 (fun _ _ h => h))
      clear hk1 hfound HkR
      go_wp2_with fail
      refine (list_nilI y1).mono ?_
      rintro e y2 ⟨rfl, hk2⟩
      have HK2 := hide (HK1.out.trans hk2 (fun _ _ h => h))
      clear hk2 HK1
      -- Map of nil
      go_wp2_with fail
      refine (of_U y2 _ xs (HV.out.kept HK2.out (fun _ _ h => h)) hxl.out).mono ?_
      rintro e y3 ⟨d3, rfl, ⟨X3, hs3⟩, hk3⟩
      have HK3 := hide (HK2.out.trans hk3 (fun _ _ h => h))
      clear hs3 hk3 HK2
      go_wp2_with fail
      refine (map_nilI y3 _).mono ?_
      rintro e y4 ⟨d4, v4, rfl, h1, h2, h3, h4, h5⟩
      have HS4 := hide (of_okI (D := DI) (xs := []) h1 h2 (fun x => (DI_one x).1) (by simp))
      have HK4 := hide (HK3.out.trans h3 (fun _ _ h => h))
      clear h1 h2 h3 h4 h5 HK3
      go_wp2_with fail
      refine (list_atI HS4.out (encD_one DI_one) (by simp)).mono ?_
      rintro e y5 ⟨kv5, vs5, G5, rfl, h1, h2, h3, h4, h5, h6⟩
      obtain ⟨ao5, cc5, rfl⟩ := ownsRow_slice h1
      have HK5 := hide (HK4.out.trans h3 (fun _ _ h => h))
      clear h1 h2 h3 h4 h5 h6 HK4 HS4
      simp only [List.length_nil]
      -- Keep of nil
      go_wp2_with fail
      refine (of_U y5 _ xs (HV.out.kept HK5.out (fun _ _ h => h)) hxl.out).mono ?_
      rintro e y6 ⟨d6, rfl, ⟨X6, hs6⟩, hk6⟩
      have HK6 := hide (HK5.out.trans hk6 (fun _ _ h => h))
      clear hs6 hk6 HK5
      go_wp2_with fail
      refine (keep_nilI y6 _).mono ?_
      rintro e y7 ⟨d7, v7, rfl, h1, h2, h3, h4, h5⟩
      have HS7 := hide (of_okI (D := DI) (xs := []) h1 h2 (fun x => (DI_one x).1) (by simp))
      have HK7 := hide (HK6.out.trans h3 (fun _ _ h => h))
      clear h1 h2 h3 h4 h5 HK6
      go_wp2_with fail
      refine (list_atI HS7.out (encD_one DI_one) (by simp)).mono ?_
      rintro e y8 ⟨kv8, vs8, G8, rfl, h1, h2, h3, h4, h5, h6⟩
      obtain ⟨ao8, cc8, rfl⟩ := ownsRow_slice h1
      have HK8 := hide (HK7.out.trans h3 (fun _ _ h => h))
      clear h1 h2 h3 h4 h5 h6 HK7 HS7
      simp only [List.length_nil]
      -- Fold of nil
      go_wp2_with fail
      refine (of_U y8 _ xs (HV.out.kept HK8.out (fun _ _ h => h)) hxl.out).mono ?_
      rintro e y9 ⟨d9, rfl, ⟨X9, hs9⟩, hk9⟩
      have HK9 := hide (HK8.out.trans hk9 (fun _ _ h => h))
      clear hs9 hk9 HK8
      go_wp2_with fail
      refine (fold_nilI y9 _ (.int .i64 7) rfl).mono ?_
      rintro e y10 ⟨rfl, hk10⟩
      have HK10 := hide (HK9.out.trans hk10 (fun _ _ h => h))
      clear hk10 HK9
      go_wp2
      go_ret
      exact ⟨rfl, HK10.out⟩
end Go.Proofs.Ytgeffdoepcbhiaa
