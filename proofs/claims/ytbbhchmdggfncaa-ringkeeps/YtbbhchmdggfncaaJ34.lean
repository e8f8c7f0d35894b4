/-
  The law's first log, as it lies: what Open and Walk find there.
-/
import Derived.Test.YtbbhchmdggfncaaJ33
import Derived.Test.YtbbhchmdggfncaaJ27
import Derived.Test.YtbbhchmdggfncaaJ32
import Derived.Test.YtbbhchmdggfncaaJ29
namespace Go.Proofs.Ytbbhchmdggfncaa
open Go.RowKit Go.Shelf
set_option linter.unusedSimpArgs false
set_option linter.unusedVariables false
set_option maxRecDepth 100000

def z64 : List Nat := List.replicate 64 0
def firH : List Nat := (sectorsOf 0 (fun _ => 1) (putRN ⟨1, 1, 1, []⟩)).flatten
def firC : List Nat := (sectorsOf 1 (fun _ => 1) (putRN ⟨3, 1, 1, []⟩)).flatten
/-- The law's first log's device, with its head and its commit. -/
def firL : List (List Nat) := List.replicate 2 z64 ++ (firH :: firC :: List.replicate 36 z64)
theorem fir_walk : (walkB 8 9 (segB 2 3 8 firL 0) 9 0 0 0).length = 2 := by kernel_rfl
theorem fir_open : opRun 8 1 (segB 2 3 8 firL) 3 0 0 = ([⟨0, 1, 1, ⟨1, 1, 1, []⟩⟩, ⟨1, 1, 1, ⟨3, 1, 1, []⟩⟩], 2) := by kernel_rfl
theorem fir_64 : ∀ x ∈ firL, x.length = 64 := by
  have h : firL.all (fun x => x.length == 64) = true := by kernel_rfl
  intro x hx
  simpa using List.all_eq_true.1 h x hx
theorem fir_lt : ∀ x ∈ firL, ∀ y ∈ x, y < 256 := by
  have h : firL.all (fun x => x.all fun y => decide (y < 256)) = true := by kernel_rfl
  intro x hx y hy
  simpa using List.all_eq_true.1 (List.all_eq_true.1 h x hx) y hy
/-- The device behind New, Start and Add, and Flush. -/
def firS0 : D.DS := D.DS.new 40
def firS1 : D.DS := wDev firS0 2 1 firH
def firS2 : D.DS := wDev firS1 3 1 firC
def firS3 : D.DS := firS2.flushed
theorem fir_e0 : wErr firS0 = 0 := by kernel_rfl
theorem fir_e1 : wErr firS1 = 0 := by kernel_rfl
theorem fir_e2 : firS2.errF = 0 := by kernel_rfl
theorem fir_off : firS3.off = false := by kernel_rfl
theorem fir_view : firS3.view = BV firL.flatten := by kernel_rfl
theorem fir_calls : firS3.calls = 3 ∧ firS3.ws.length = 0 ∧ firS2.calls = 2 ∧ firS1.calls = 1 ∧ firS0.calls = 0 ∧ firS1.ws.length = 1 := ⟨by kernel_rfl, by kernel_rfl, by kernel_rfl, by kernel_rfl, by kernel_rfl, by kernel_rfl⟩
theorem fir_turn (A : List Nat) : tErr firS3 4 A = 0 := rfl
theorem fir_right : rightR ⟨1, 1, 1, []⟩ = true ∧ rightR ⟨3, 1, 1, []⟩ = true ∧ rightR ⟨1, 1, 2, []⟩ = true := ⟨by kernel_rfl, by kernel_rfl, by kernel_rfl⟩
theorem fir_len : (putRN ⟨1, 1, 1, []⟩).length = 13 ∧ (putRN ⟨3, 1, 1, []⟩).length = 15 ∧ (putRN ⟨1, 1, 2, []⟩).length = 13 := ⟨by kernel_rfl, by kernel_rfl, by kernel_rfl⟩
theorem fir_room : roomE ⟨0, 2, 3, 8, 1⟩ ⟨3, 1, 1, []⟩ 1 0 = 0 := by kernel_rfl
end Go.Proofs.Ytbbhchmdggfncaa


/-
  The bytes of what is laid; the empty sector; the record that the law adds. Plain functions over lists; no condition beyond each law's own premises.
-/
namespace Go.Proofs.Ytbbhchmdggfncaa
open Go.RowKit Go.Shelf
set_option linter.unusedSimpArgs false
set_option linter.unusedVariables false
set_option maxRecDepth 100000

theorem z64_bad : (getN z64).2 ≠ 0 := by
  have h : (getN z64).2 = 20 ∨ ¬ (getN z64).2 = 0 := .inr (by decide +kernel)
  rcases h with h | h
  · rw [h]; decide
  · exact h
theorem z64_len : z64.length = 64 := by simp [z64]
theorem z64_lt : ∀ y ∈ z64, y < 256 := by
  intro y hy
  rw [List.eq_of_mem_replicate hy]
  decide
theorem itS_lt {p : Int} {x : It} (h : ItOk p x) : ∀ y ∈ itS p x, ∀ b ∈ y, b < 256 := by
  intro y hy
  obtain ⟨i, hi, rfl⟩ := List.mem_map.1 hy
  exact putN_lt _ (by simp [frameAt]; omega) (fun b hb => h.bytes b (List.mem_of_mem_drop (List.mem_of_mem_take hb)))
theorem itsS_lt : ∀ (p : Int) (l : List It), itsOk p l → ∀ y ∈ itsS p l, ∀ b ∈ y, b < 256
  | _, [], _, y, hy => by simp [itsS] at hy
  | p, x :: l, ⟨h1, _, h3⟩, y, hy => by
    rcases List.mem_append.1 hy with hy | hy
    · exact itS_lt h1 y hy
    · exact itsS_lt _ l h3 y hy
theorem layAt_lt {sz : Nat} {segs : List (List It)} (hs : ∀ (i : Nat) (l : List It), segs[i]? = some l → itsOk ((sz * i : Nat) : Int) l) {p : Nat} {y : List Nat} (h : layAt sz segs p = some y) : ∀ b ∈ y, b < 256 := by
  unfold layAt at h
  split at h
  case h_2 => cases h
  rename_i l' hl'
  exact itsS_lt _ l' (hs _ l' hl') y (List.mem_of_getElem? h)
theorem SegsOk.all {sz : Nat} {e0 : Int} {pre : List (List It)} {l : List It} (h : SegsOk sz e0 pre l) : ∀ (i : Nat) (l' : List It), (pre ++ [l])[i]? = some l' → itsOk ((sz * i : Nat) : Int) l' := by
  intro i l' hi
  rcases Nat.lt_or_ge i pre.length with h1 | h1
  · rw [List.getElem?_append_left h1] at hi
    exact (h.prev i l' hi).2.1
  · rw [List.getElem?_append_right h1] at hi
    cases h2 : i - pre.length with
    | zero =>
      rw [h2] at hi
      simp at hi
      obtain rfl : i = pre.length := by omega
      subst hi
      exact h.ok
    | succ j => rw [h2] at hi; simp at hi
/-- Behind a crash all are bytes. -/
theorem or_lt {sz : Nat} {segs : List (List It)} (hs : ∀ (i : Nat) (l : List It), segs[i]? = some l → itsOk ((sz * i : Nat) : Int) l) {L : List (List Nat)} (hor : ∀ (p : Nat) (y : List Nat), L[p]? = some y → y = z64 ∨ layAt sz segs p = some y) : ∀ x ∈ L, ∀ b ∈ x, b < 256 := by
  intro x hx
  obtain ⟨p, hp⟩ := List.mem_iff_getElem?.1 hx
  rcases hor p x hp with rfl | h
  · exact z64_lt
  · exact layAt_lt hs h
/-- The record that the law adds: number k, j writes of 64 bytes, of which the first is v. -/
def rcK (k v j : Nat) : Rc := ⟨3, 1, k, (List.range j).map fun (b : Nat) => ⟨(b : Int), v :: List.replicate 63 0⟩⟩
theorem rcK_right {k v j : Nat} (hk : 1 ≤ k ∧ k ≤ 1000) (hj : j ≤ 3) : rightR (rcK k v j) = true := by
  have hk2 : decide ((0 : Int) < (k : Int)) = true := by rw [decide_eq_true_eq]; omega
  have ht : tnOk (rcK k v j) = true := by
    show decide ((1 : Int) ≤ 1 ∧ (1 : Int) ≤ 2147483647 ∧ (0 : Int) ≤ (k : Int) ∧ (k : Int) ≤ 1099511627776) = true
    rw [decide_eq_true_eq]
    exact ⟨by decide, by decide, by omega, by omega⟩
  have hg : goodFrom (-1) (rcK k v j).ws = true := by
    rcases (show j = 0 ∨ j = 1 ∨ j = 2 ∨ j = 3 by omega) with rfl | rfl | rfl | rfl <;> simp [rcK, goodFrom, List.range_succ]
  unfold rightR
  rw [if_neg (show ¬ (rcK k v j).kind = 2 by simp [rcK]), if_neg (show ¬ (rcK k v j).kind = 1 by simp [rcK]), if_pos (show (rcK k v j).kind = 3 from rfl), ht, hg]
  simpa [rcK] using hk2
theorem rcK_len (k v j : Nat) : (putR (rcK k v j)).length = 15 + 66 * j := by
  have h : ∀ (l : List Nat), (encWs (l.map fun (b : Nat) => (⟨(b : Int), v :: List.replicate 63 0⟩ : Wr))).length = 66 * l.length := by
    intro l
    induction l with
    | nil => rfl
    | cons a l ih =>
      simp only [encWs, List.map_cons, List.flatMap_cons, List.length_append, List.length_cons] at ih ⊢
      rw [ih]
      simp [encW, numB]
      omega
  unfold putR
  rw [if_neg (show ¬ (rcK k v j).kind = 2 by simp [rcK]), if_pos (show (rcK k v j).kind = 3 from rfl)]
  simp only [List.length_append]
  rw [show (rcK k v j).ws = (List.range j).map fun (b : Nat) => (⟨(b : Int), v :: List.replicate 63 0⟩ : Wr) from rfl, h]
  simp [numB]
  omega
theorem rcK_lt {k v j : Nat} (hv : v < 256) : ∀ y ∈ putR (rcK k v j), y < 256 := by
  have h : ∀ (l : List Nat), ∀ y ∈ encWs (l.map fun (b : Nat) => (⟨(b : Int), v :: List.replicate 63 0⟩ : Wr)), y < 256 := by
    intro l y hy
    obtain ⟨u, hu, hy⟩ := List.mem_flatMap.1 hy
    obtain ⟨b, _, rfl⟩ := List.mem_map.1 hu
    rcases List.mem_append.1 hy with hy | hy
    · exact numB_lt _ _ y hy
    · rcases List.mem_cons.1 hy with rfl | hy
      · exact hv
      · rw [List.eq_of_mem_replicate hy]; decide
  intro y hy
  unfold putR at hy
  rw [if_neg (show ¬ (rcK k v j).kind = 2 by simp [rcK]), if_pos (show (rcK k v j).kind = 3 from rfl)] at hy
  simp only [List.mem_append] at hy
  rcases hy with hy | hy | hy | hy | hy
  · exact numB_lt _ _ y hy
  · exact numB_lt _ _ y hy
  · exact numB_lt _ _ y hy
  · exact numB_lt _ _ y hy
  · exact h _ y hy
theorem rcK_sect (k v j : Nat) (hj : j ≤ 3) : 1 ≤ sectN (putR (rcK k v j)).length ∧ sectN (putR (rcK k v j)).length ≤ 6 := by
  rw [rcK_len]
  unfold sectN
  omega
end Go.Proofs.Ytbbhchmdggfncaa


/-
  The commits among what is told. Plain functions over lists; no condition beyond each law's own premises.
-/
namespace Go.Proofs.Ytbbhchmdggfncaa
open Go.RowKit Go.Shelf
set_option linter.unusedSimpArgs false
set_option linter.unusedVariables false
set_option maxRecDepth 100000

theorem comE_all (sz k : Nat) (segs : List (List It)) : comE (tellAll sz k segs) = comR segs := by rw [comE_rc, tellAll_rc]; rfl
theorem recs_snoc (pre : List (List It)) (l : List It) (x : It) : recs (pre ++ [l ++ [x]]) = recs (pre ++ [l]) ++ [x.2] := by simp [recs]
theorem comR_snoc (pre : List (List It)) (l : List It) (x : It) : comR (pre ++ [l ++ [x]]) = if x.2.kind = 3 then comR (pre ++ [l]) ++ [x.2] else comR (pre ++ [l]) := by
  unfold comR
  rw [recs_snoc, List.filter_append]
  split <;> simp_all
theorem comR_nil (pre : List (List It)) : comR (pre ++ [[]]) = comR pre := by simp [comR, recs]
theorem comE_cut (sz : Nat) (segs : List (List It)) (M : Nat) (h : ∀ (i : Nat) (l : List It), segs[i]? = some l → i + 1 < segs.length → endsIn l = true) : comE ((tellAll sz 0 segs).take M) = comR ((cutS segs M).1 ++ [(cutS segs M).2]) := by
  rw [comE_rc, List.map_take, tellAll_rc]
  unfold comR recs
  rw [cutS_flat segs M h, List.map_take]
theorem SegsOk.sw {sz : Nat} {e0 : Int} {pre : List (List It)} {l : List It} (h : SegsOk sz e0 pre l) : ∀ (i : Nat) (l' : List It), (pre ++ [l])[i]? = some l' → i + 1 < (pre ++ [l]).length → endsIn l' = true := by
  intro i l' hi hlt
  rw [List.length_append, List.length_singleton] at hlt
  rw [List.getElem?_append_left (by omega)] at hi
  exact (h.prev i l' hi).2.2.2
/-- The later epoch's record goes into the open segment: all is found again, and it. -/
theorem again_in {sz n sg : Nat} (hsz : 2 ≤ sz) (hn : sz * sg ≤ n) {pre0 : List (List It)} {l0 : List It} (hs0 : SegsOk sz 1 pre0 l0) {L : List (List Nat)} (hLn : L.length = n) (hL : ∀ x ∈ L, x.length = 64) (hor : ∀ (p : Nat) (y : List Nat), L[p]? = some y → y = z64 ∨ layAt sz (pre0 ++ [l0]) p = some y)
    {pre : List (List It)} {l : List It} (hs : SegsOk sz 1 pre l) (h1 : ∀ (p : Nat) (y : List Nat), layAt sz (pre ++ [l]) p = some y → L[p]? = some y) (hsg : pre.length + 1 ≤ sg) {x : It} (hk : x.2.kind = 3) (he : x.1 = 2) (hx : ItOk ((sz * pre.length : Nat) + itsN l : Int) x) (hfit : itsN l + itN x < sz) {N : List (Nat × List Nat)} (hN : N = putW (sz * pre.length + itsN l) (itS ((sz * pre.length + itsN l : Nat) : Int) x)) :
    ∃ en, opRun sz 2 (segB 0 sg sz (laidL (fun _ => true) N L N.length)) sg 0 0 = (tellAll sz 0 (pre ++ [l ++ [x]]), en) ∧ comE (tellAll sz 0 (pre ++ [l ++ [x]])) = comR (pre ++ [l]) ++ [x.2] := by
  obtain ⟨q1, q2, q3⟩ := layAt_snoc (pre := pre) (l := l) (x := x) (show 0 < sz by omega) (by omega) rfl
  rw [← hN] at q2 q3
  have hm : sz * pre.length + sz ≤ n := by
    have : sz * (pre.length + 1) ≤ sz * sg := Nat.mul_le_mul_left sz hsg
    rw [Nat.mul_add] at this
    omega
  refine ⟨_, again_of (by omega) z64_bad hn hs0 hLn hL hor h1 q1 q2 q3 (fun q hq => ?_) hsg leK rfl (fun i l' hi => by
    obtain ⟨r1, r2, r3, r4⟩ := hs.prev i l' hi
    exact ended_prev r1 r2 r3 r4) (open_in hs hk he hx hfit), by rw [comE_all, comR_snoc, if_pos hk]⟩
  rw [hN] at hq
  obtain ⟨i, hi, rfl⟩ := List.mem_map.1 hq
  have hi := List.mem_range.1 hi
  rw [itS_length] at hi
  simp only []
  omega
end Go.Proofs.Ytbbhchmdggfncaa


/-
  The law's counting of a walk's entries; a log among other blocks.
-/
namespace Go.Proofs.Ytbbhchmdggfncaa
open Go.RowKit Go.Shelf
set_option linter.unusedSimpArgs false
set_option linter.unusedVariables false
set_option maxRecDepth 100000

theorem fir17_at (W : World) (bn : Nat) (c : Int) (l e n k t m : Int) (s : Sl) (hb : Blk W bn [.int .i64 c] 3) (hc : 0 ≤ c ∧ c ≤ 1000000) :
    Calls Try.prog 17 #[enAgg l e n k t m s, .pointer (some ⟨bn, 0, none⟩)] W fun x W' => x = .returned (.bool true) ∧ Blk W' bn [.int .i64 (c + 1)] 3 ∧ Kept (fun k => k = bn) W W' := by
  obtain ⟨i3, hi3, hz3, hs3, hb3⟩ := info_parts Try.info3
  have Hi3 := hide hi3
  have Hs3 := hide hs3
  have hw : IntKind.i64.wrap (c + 1) = c + 1 := by rw [IntKind.wrap_i64]; omega
  have HB := hide hb
  clear hi3 hz3 hs3 hb3 hc hb
  unfold enAgg
  go_enter Try.func17, Try.ntmps17
  go_wp2_with (first
    | ((with_reducible refine aw_box (t := 58) (v := enAgg l e n k t m s) rfl ?_); intro w1 hb1 hk1 hz1; have Hk1 := hide hk1; have c0 : w1.cell? ⟨bn, 0, none⟩ = some (.int .i64 c) := (hk1.blk HB.out (fun h => h)).cell 0; clear hz1 hb1 hk1)
    | (with_reducible refine stop_store 3 ?_)
    | fail)
  refine hide ?_
  refine aw_store1 (v := .int .i64 (c + 1)) (off := 0) Hi3.out Hs3.out rfl rfl rfl rfl (Hk1.out.blk HB.out (fun h => h)) (by simp) ?_
  intro w2 hb2 hk2 hz2
  have Hb2 := hide hb2
  have Hk2 := hide hk2
  clear hb2 hk2 hz2 c0
  try simp only [put_lit, put_none, List.set_cons_succ, List.set_cons_zero]
  go_wp2
  go_ret
  exact ⟨rfl, Hb2.out, (Hk1.out.mono (fun _ _ h => h.elim)).trans Hk2.out (fun _ _ h => h)⟩

theorem firN_at {sv : Value} {xs : List En} {X : NSet} {W0 W : World} {bn : Nat} (hok : SeqOk Try.prog sv EEn xs X (fun _ => False) (fun _ _ _ => True) W0) (hf : IsFn sv) (hX : ¬ X bn) (hk : Kept (fun _ => False) W0 W) (hb : Blk W bn [.int .i64 0] 3) (hl : xs.length ≤ 1000) :
    YC Try.prog sv #[.func (.func 17) #[] #[.pointer (some ⟨bn, 0, none⟩)]] W fun e W' => (∃ v, e = .returned v) ∧ Kept (fun k => k = bn) W W' ∧ Blk W' bn [.int .i64 xs.length] 3 := by
  refine (hok.run hf W _ hk (fun _ h => h.elim) (.func (.func 17) #[] #[.pointer (some ⟨bn, 0, none⟩)]) (fun pre F W => F = (fun k => k = bn) ∧ Blk W bn [.int .i64 pre.length] 3) (fun _ _ _ => False) (fun k => k = bn) ⟨_, _, rfl⟩ ?_ (fun _ => ⟨fun _ _ h => h.elim, fun _ _ _ _ h => h.elim⟩) ?_ ?_ ⟨rfl, hb⟩).mono ?_
  · intro pre
    refine ⟨?_, ?_⟩
    · rintro F W ⟨rfl, h⟩ k rfl
      exact h.lt
    · rintro F W W' S ⟨rfl, h⟩ hk h1 h2
      exact ⟨rfl, hk.blk h (fun hs => h1 bn hs rfl)⟩
  · rintro k rfl
    exact ⟨hX, fun h => h⟩
  · rintro pre x post F G v W1 hx ⟨rfl, h⟩ hB hF ⟨y, rfl, _, _, _, _⟩ hG
    have hpl : pre.length ≤ 1000 := by
      have := congrArg List.length hx
      simp at this
      omega
    refine .inl ⟨17, _, rfl, enters_of Try.func17 (by kernel_rfl) rfl, (fir17_at W1 bn pre.length _ _ _ _ _ _ _ h ⟨by omega, by omega⟩).mono ?_⟩
    rintro e W2 ⟨rfl, h2, hk2⟩
    refine ⟨fun k => k = bn, .inl ⟨rfl, rfl, by simpa using h2⟩, hk2.mono (fun _ _ h => .inl h), fun k h => .inl h⟩
  · rintro e W' ⟨hv, b, hkk, hc⟩
    refine ⟨hv, hkk.mono (fun _ _ h => h.elim id False.elim), ?_⟩
    rcases hc with ⟨_, F', ⟨_, h⟩, _⟩ | ⟨_, _, _, _, h, _⟩
    · exact h
    · exact h.elim

/-- A log among other blocks: all its blocks are at w0's end or beyond; the blocks of G are others. -/
structure Rg (w0 w : World) (b n : Nat) (l : Lg) (s : D.DS) (G : List (Nat × List Value × TypeId)) : Prop where
  dev : ∃ F, D.DevAt w l.db n s F ∧ (∀ k, F k → w0.heap.size ≤ k) ∧ ¬ F b ∧ ∀ x ∈ G, ¬ F x.1
  log : LogAt w b l
  new : w0.heap.size ≤ b
  kept : Kept (fun _ => False) w0 w
  blk : ∀ x ∈ G, Blk w x.1 x.2.1 x.2.2 ∧ x.1 ≠ b

section
variable {w0 w w' : World} {b n : Nat} {l l' : Lg} {s s' : D.DS} {G : List (Nat × List Value × TypeId)}
theorem Rg.open (h : Rg w0 w b n l s G) : ∃ F, D.DevAt w l.db n s F ∧ ¬ F b ∧ (∀ x ∈ G, ¬ F x.1) ∧ ∀ w' l' s', RStep w w' b n l' s' F → Rg w0 w' b n l' s' G := by
  obtain ⟨F, hd, hF, hb, hG⟩ := h.dev
  refine ⟨F, hd, hb, hG, ?_⟩
  rintro w' l' s' ⟨hk, hl, F', hd', hb', hF'⟩
  have hne : ∀ x ∈ G, Blk w' x.1 x.2.1 x.2.2 := fun x hx => hk.blk (h.blk x hx).1 (fun hf => hf.elim (hG x hx) (h.blk x hx).2)
  refine ⟨⟨F', hd', fun k hk' => ?_, hb', fun x hx hf => ?_⟩, hl, h.new, h.kept.trans hk ?_, fun x hx => ⟨hne x hx, (h.blk x hx).2⟩⟩
  · rcases hF' k hk' with h1 | h1
    · exact hF k h1
    · exact Nat.le_trans h.kept.size h1
  · rcases hF' _ hf with h1 | h1
    · exact hG x hx h1
    · have := (h.blk x hx).1.lt; omega
  · rintro i hi (hf | hf)
    · have := hF i hf; omega
    · have := h.new; omega
theorem Rg.devStep (h : Rg w0 w b n l s G) : ∃ F, D.DevAt w l.db n s F ∧ ∀ w' s', D.DevStep w w' l.db n s' F → Rg w0 w' b n l s' G := by
  obtain ⟨F, hd, hb, hG, hst⟩ := h.open
  refine ⟨F, hd, ?_⟩
  rintro w' s' ⟨hk, F', hd', hF'⟩
  refine hst w' l s' ⟨hk.mono (fun _ _ h => .inl h), hk.blk h.log hb, F', hd', fun hf => ?_, hF'⟩
  rcases hF' b hf with h1 | h1
  · exact hb h1
  · have := h.log.lt; omega
theorem Rg.same (h : Rg w0 w b n l s G) (hk : Kept (fun _ => False) w w') : Rg w0 w' b n l s G := by
  obtain ⟨F, hd, hF, hb, hG⟩ := h.dev
  exact ⟨⟨F, hd.kept hk (fun _ _ h => h), hF, hb, hG⟩, h.log.kept hk, h.new, h.kept.trans hk (fun _ _ h => h), fun x hx => ⟨hk.blk (h.blk x hx).1 (fun h => h), (h.blk x hx).2⟩⟩
/-- Another block beside it. -/
theorem Rg.more (h : Rg w0 w b n l s G) (g : Nat) (L : List Value) (t : TypeId) (hb : Blk w g L t) (hg : ∃ v : World, Rg w0 v b n l s G ∧ Kept (fun _ => False) v w ∧ v.heap.size ≤ g) : Rg w0 w b n l s ((g, L, t) :: G) := by
  obtain ⟨v, hv, hk, hg⟩ := hg
  obtain ⟨F, hd, hF, hFb, hG⟩ := hv.dev
  refine ⟨⟨F, hd.kept hk (fun _ _ h => h), hF, hFb, ?_⟩, h.log, h.new, h.kept, ?_⟩
  · intro x hx
    rcases List.mem_cons.1 hx with rfl | hx
    · intro hf; have := hd.lt _ hf; simp at hf hg; omega
    · exact hG x hx
  · intro x hx
    rcases List.mem_cons.1 hx with rfl | hx
    · exact ⟨hb, fun he => by have := hv.log.lt; simp at he hg; omega⟩
    · exact h.blk x hx
/-- Its cells are set, the device isn't touched. -/
theorem Rg.set (h : Rg w0 w b n l s G) (hk : Kept (fun k => k = b) w w') (hl : LogAt w' b l') (hdb : l'.db = l.db) : Rg w0 w' b n l' s G := by
  obtain ⟨F, hd, hb, hG, hst⟩ := h.open
  refine hst w' l' s ⟨hk.mono (fun _ _ h => .inr h), hl, F, ?_, hb, fun k h => .inl h⟩
  rw [hdb]
  exact hd.kept hk (fun k hF hk => hb (hk ▸ hF))
end
end Go.Proofs.Ytbbhchmdggfncaa
