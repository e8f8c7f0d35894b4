/-
  Books of transactions in memory; New, Clear, Open, End, and what a transaction has.
-/
import Derived.Test.YtclfklcboigifaaKeysW
import Derived.Test.YtclfklcboigifaaRMergeB
import Derived.Test.YtclfklcboigifaaTxMath
import Derived.OwnWalk
namespace Go.Proofs.Ytclfklcboigifaa
open Go.RowKit Go.Shelf
set_option linter.unusedSimpArgs false
set_option linter.unusedVariables false
set_option maxRecDepth 100000

abbrev EntX := Int × (Sl × List Wv)
def entsX (E : List EntX) : List EntB := mapK (·.1) E
def rowsX (E : List EntX) : Txs := mapK (fun x => x.2.map Wv.wr) E
/-- A book lies at b: so many blocks, the last handle, its transactions. -/
structure BkIs (w : World) (b p : Nat) (v : Value) (n last : Int) (E : List EntX) : Prop where
  blk : Blk w b [.int .i64 n, .int .i64 last, .pointer (some ⟨p, 0, none⟩)] 66
  m : MapW w p v (entsX E)
  ws : ∀ x ∈ E, WsOwn w x.2.1.v x.2.2
def footX (b p : Nat) (v : Value) (E : List EntX) (k : Nat) : Prop := k = b ∨ footM p v k ∨ ∃ x ∈ E, x.2.1.v.ownBlock = some k ∨ ∃ y ∈ x.2.2, y.s.v.ownBlock = some k
def BkAt (w : World) (b : Nat) (n last : Int) (L : Txs) (X : NSet) : Prop := ∃ p v E, BkIs w b p v n last E ∧ rowsX E = L ∧ ∀ k, X k ↔ footX b p v E k
def BStep (w w' : World) (b : Nat) (n last : Int) (L : Txs) (X : NSet) : Prop := Kept X w w' ∧ ∃ X', BkAt w' b n last L X' ∧ ∀ k, X' k → X k ∨ w.heap.size ≤ k
section
variable {w w' : World} {b p : Nat} {v : Value} {n last : Int} {E : List EntX} {L : Txs} {X S : NSet}
theorem MapW.ne_own {v : Value} {p : Nat} {l : List EntB} (h : MapW w p v l) {L : List Value} {t : TypeId} (hb : Blk w b L t) (ht : t ≠ 87) (ht2 : t ≠ 85) : ¬ footM p v b := by
  rintro (e | e)
  · subst e; exact ht (hb.same h.blk).2
  · exact ownsRow_blk_ne h.own hb ht2 e
theorem MapW.ne_row {v u : Value} {p k : Nat} {l : List EntB} (h : MapW w p v l) {e : TypeId} {sz n : Nat} {xs : List Value} (ho : w.ownsRow 0 e sz u n xs) (hk : u.ownBlock = some k) (ht : 87 ≠ e) (ht2 : e ≠ 85) : ¬ footM p v k := by
  rintro (e' | e')
  · subst e'; exact ownsRow_blk_ne ho h.blk ht hk
  · exact own_apart ho h.own ht2 _ hk e'
theorem BkIs.kept (h : BkIs w b p v n last E) (hk : Kept S w w') (hS : ∀ k, footX b p v E k → ¬ S k) : BkIs w' b p v n last E :=
  ⟨hk.blk h.blk (hS _ (.inl rfl)), h.m.kept hk (hS _ (.inr (.inl (.inl rfl)))) (fun k hk => hS _ (.inr (.inl (.inr hk)))),
    fun x hx => (h.ws x hx).kept hk (fun k hk => hS k (.inr (.inr ⟨x, hx, .inl hk⟩))) (fun y hy k hk => hS k (.inr (.inr ⟨x, hx, .inr ⟨y, hy, hk⟩⟩)))⟩
/-- The writes lie aside of the order. -/
theorem BkIs.aside (h : BkIs w b p v n last E) (hk : Kept (footM p v) w w') : ∀ x ∈ E, WsOwn w' x.2.1.v x.2.2 := fun x hx =>
  (h.ws x hx).kept hk (fun k hk => h.m.ne_row (h.ws x hx).1 hk (by decide) (by decide)) (fun y hy k hk => h.m.ne_row ((h.ws x hx).2 y hy).1 hk (by decide) (by decide))
theorem BkIs.nb (h : BkIs w b p v n last E) : ¬ footM p v b := h.m.ne_own h.blk (by decide) (by decide)
theorem BkIs.lt (h : BkIs w b p v n last E) : ∀ k, footX b p v E k → k < w.heap.size := by
  rintro k (rfl | (rfl | hk) | ⟨x, hx, hk | ⟨y, hy, hk⟩⟩)
  · exact h.blk.lt
  · exact h.m.blk.lt
  · exact ownsRow_lt h.m.own k hk
  · exact ownsRow_lt (h.ws x hx).1 k hk
  · exact ownsRow_lt ((h.ws x hx).2 y hy).1 k hk
theorem BkAt.kept (h : BkAt w b n last L X) (hk : Kept S w w') (hS : ∀ k, X k → ¬ S k) : BkAt w' b n last L X := by
  obtain ⟨p, v, E, h, hL, hx⟩ := h
  exact ⟨p, v, E, h.kept hk (fun k hk => hS k ((hx k).2 hk)), hL, hx⟩
theorem BkAt.lt (h : BkAt w b n last L X) : ∀ k, X k → k < w.heap.size := by
  obtain ⟨p, v, E, h, hL, hx⟩ := h
  exact fun k hk => h.lt k ((hx k).1 hk)
theorem BStep.refl (h : BkAt w b n last L X) : BStep w w b n last L X := ⟨Kept.refl _ _, X, h, fun _ h => .inl h⟩
theorem BStep.pre {w0 : World} (hk : Kept (fun _ => False) w0 w) (h : BStep w w' b n last L X) : BStep w0 w' b n last L X := by
  obtain ⟨h1, X', h2, h3⟩ := h
  exact ⟨(hk.mono (fun _ _ h => h.elim)).trans h1 (fun _ _ h => h), X', h2, fun k hk' => (h3 k hk').imp id (fun h => Nat.le_trans hk.size h)⟩
theorem BStep.post {w1 : World} (h : BStep w w' b n last L X) (hk : Kept (fun _ => False) w' w1) : BStep w w1 b n last L X := by
  obtain ⟨h1, X', h2, h3⟩ := h
  exact ⟨h1.trans hk (fun _ _ h => h.elim), X', h2.kept hk (fun _ _ h => h), h3⟩
theorem BStep.still (h : BkAt w b n last L X) (hk : Kept (fun _ => False) w w') : BStep w w' b n last L X := (BStep.refl h).post hk
/-- What a handle has. -/
def curX (E : List EntX) (h : Int) : Sl × List Wv := valK ltI ((⟨none, 0, 0⟩ : Sl), ([] : List Wv)) E h
theorem curX_sl (E : List EntX) (h : Int) : getKW (entsX E) h = (curX E h).1 := by
  have := valK_map (lt := ltI) (·.1) ((⟨none, 0, 0⟩ : Sl), ([] : List Wv)) E h
  exact this
theorem curX_rows (E : List EntX) (h : Int) : valK ltI [] (rowsX E) h = (curX E h).2.map Wv.wr := valK_map (lt := ltI) (fun x : Sl × List Wv => x.2.map Wv.wr) ((⟨none, 0, 0⟩ : Sl), ([] : List Wv)) E h
theorem BkIs.cur (h : BkIs w b p v n last E) (k : Int) : WsOwn w (curX E k).1.v (curX E k).2 := by
  rcases valK_cases (lt := ltI) ((⟨none, 0, 0⟩ : Sl), ([] : List Wv)) E k with e | ⟨j, hj⟩
  · unfold curX; rw [e]; exact WsOwn.nil w
  · exact h.ws _ hj
theorem rowsX_len (E : List EntX) : (rowsX E).length = E.length := mapK_len _ _
theorem entsX_len (E : List EntX) : (entsX E).length = E.length := mapK_len _ _
end
theorem r_ls1 {ρ : Operand → Value} {w : World} {dst : Option Tmp} {ty : TypeId} {pos : String} {aft : Array Edge} {gd : Option (Nat × Bool)} {x : Operand} {a : Option Addr} {n c : Nat} (hx : ρ x = .slice a n c) :
    (execOp ρ ⟨dst, .buildSlice 78 1 #[(0, x)], ty, pos, aft, gd⟩).run Try.prog w = .ok (.value (.slice (some ⟨w.heap.size, 0, none⟩) 1 1)) (w.alloc (.cells [Value.slice a n c].toArray 33)) := by
  obtain ⟨i0, hi0, hz0, hs0, hb0⟩ := info_parts Try.info33
  exact run_bs1 Try.underlying78 hi0 hz0 hs0 [.slice a n c] (by simp) (by simp) (by simp [Value.cells]) (by simp [hx])
theorem ls_blk {w : World} {g : Nat} {L : List Value} {ls : List (Sl × List Wv)} (hb : Blk w g L 33) (hL : L = ls.map fun x => x.1.v) (hs : ∀ x ∈ ls, WsAt w x.1.v x.2) (n : Nat) (hn : ls.length = n) (hl : n ≤ 1000) : LsAt w (.slice (some ⟨g, 0, none⟩) n n) ls := by
  subst hn
  refine ⟨⟨_, _, by rw [List.length_map], by rw [List.length_map]; exact Nat.le_refl _, fun _ => ⟨g, 0, rfl, fun j v hj => ?_⟩, fun h => by cases h⟩, hs, by omega⟩
  rw [Nat.zero_add, hb.cell, hL]
  exact hj

theorem clear_nil (w : World) : Calls Try.prog 10 #[.pointer none] w fun e w' => e = .returned (.tuple #[]) ∧ w = w' := by
  go_enter Try.func10, Try.ntmps10
  go_wp2
  refine bodyPost_ret (results_none rfl _ _ _) rfl ?_
  exact ⟨rfl, rfl⟩
theorem clear_core (w : World) (b : Nat) (n last : Int) (po : Option Addr) (h : Blk w b [.int .i64 n, .int .i64 last, .pointer po] 66) :
    Calls Try.prog 10 #[.pointer (some ⟨b, 0, none⟩)] w fun e w' => e = .returned (.tuple #[]) ∧ Kept (fun k => k = b) w w' ∧ ∃ X', BkAt w' b n last [] X' ∧ ∀ k, X' k → k = b ∨ w.heap.size ≤ k := by
  have HB := hide h
  have hbw := h.lt
  clear h
  go_enter Try.func10, Try.ntmps10
  go_wp2_with fail
  refine (new_atW w).mono ?_
  rintro e w1 ⟨rfl, hm1, hk1⟩
  have hb1 := hk1.blk HB.out (fun h => h)
  have c2 : w1.cell? ⟨b, 2, none⟩ = some (.pointer po) := hb1.cell 2
  have f2 : w1.frozen? ⟨b, 2, none⟩ = false := hb1.frozen 2
  have HB1 := hide hb1
  have HM1 := hide hm1
  have HK1 := hide hk1
  clear hb1 hm1 hk1
  go_wp2
  go_end0
  have hb2 := HB1.out.setCell 2 (.pointer (some ⟨w.heap.size, 0, none⟩))
  have hk2 := Kept.setCell (S := fun k => k = b) w1 ⟨b, 2, none⟩ (.pointer (some ⟨w.heap.size, 0, none⟩)) rfl
  have hn1 : (Value.slice none 0 0).ownBlock = none := rfl
  refine ⟨rfl, (HK1.out.mono (T := fun k => k = b) (fun _ _ h => h.elim)).trans hk2 (fun _ _ h => h), _, ⟨w.heap.size, .slice none 0 0, [], ⟨hb2, HM1.out.kept hk2 (fun e => by omega) (fun k hk => by rw [hn1] at hk; cases hk), by simp⟩, rfl, fun _ => Iff.rfl⟩, ?_⟩
  rintro k (rfl | (rfl | h) | ⟨x, hx, _⟩)
  · exact .inl rfl
  · exact .inr (Nat.le_refl _)
  · rw [hn1] at h; cases h
  · cases hx
theorem clear_at (w : World) (b : Nat) (n last : Int) (L : Txs) (X : NSet) (h : BkAt w b n last L X) :
    Calls Try.prog 10 #[.pointer (some ⟨b, 0, none⟩)] w fun e w' => e = .returned (.tuple #[]) ∧ BStep w w' b n last [] X := by
  obtain ⟨p, v, E, h, hL, hx⟩ := h
  refine (clear_core w b n last _ h.blk).mono ?_
  rintro e w' ⟨rfl, hk, X', hp, hX⟩
  exact ⟨rfl, hk.mono (fun k _ e => (hx k).2 (.inl e)), X', hp, fun k hk => (hX k hk).imp (fun e => (hx k).2 (.inl e)) id⟩

theorem r_bookB {ρ : Operand → Value} {w : World} {dst : Option Tmp} {ty : TypeId} {pos : String} {aft : Array Edge} {gd : Option (Nat × Bool)} {x : Operand} {n : Int} (hx : ρ x = .int .i64 n) :
    (execOp ρ ⟨dst, .build 66 #[(0, x)], ty, pos, aft, gd⟩).run Try.prog w = .ok (.value (.agg #[.int .i64 n, .int .i64 0, .pointer none])) w := by
  obtain ⟨i0, hi0, hz0, hs0, hb0⟩ := info_parts Try.info66
  have hp : ∃ fields, Try.prog.underlying 66 = some (.struct fields) ∧ fields.toList.mapM (fun f => (Try.prog.info? f.type).map fun i => (f.offset, i.size)) = some [(0, 1), (1, 1), (2, 1)] := ⟨_, Try.underlying66, by kernel_rfl⟩
  obtain ⟨fields, hu, hp⟩ := hp
  have hb : Try.prog.built 66 [(0, .int .i64 n)] = some #[.int .i64 n, .int .i64 0, .pointer none] := by
    simp only [Program.built, hi0, hu, hz0, hp]
    rw [fill_one _ _ 0 (.int .i64 n) _ 0 [.int .i64 n] rfl (by simp) (by simp [Value.cells]), fill_nil]
    rfl
  have hr := run_build (P := Try.prog) w 66 #[(0, .int .i64 n)] _ (by simpa using hb)
  simp [execOp, hx, hr]
theorem txnew_no (w : World) (n : Int) (h : n < 1 ∨ 64 < n) : Calls Try.prog 7 #[.int .i64 n] w fun e w' => e = .returned (.tuple #[.pointer none, .int .i64 2]) ∧ w = w' := by
  by_cases h1 : n < 1
  · clear h
    go_enter Try.func7, Try.ntmps7
    go_wp2
    go_ret2
    exact ⟨rfl, rfl⟩
  · have h2 : 64 < n := by omega
    clear h
    go_enter Try.func7, Try.ntmps7
    go_wp2
    go_ret2
    exact ⟨rfl, rfl⟩
theorem txnew_ok (w : World) (n : Int) (h1 : ¬ n < 1) (h2 : ¬ 64 < n) : Calls Try.prog 7 #[.int .i64 n] w fun e w' => ∃ b X, e = .returned (.tuple #[.pointer (some ⟨b, 0, none⟩), .int .i64 0]) ∧ BkAt w' b n 0 [] X ∧ Kept (fun _ => False) w w' ∧ ∀ k, X k → w.heap.size ≤ k := by
  go_enter Try.func7, Try.ntmps7
  go_wp2_with (with_reducible refine stop_build 66 ?_)
  refine hide ?_
  refine wpList_run rfl (r_bookB rfl) ?_
  refine aw_box (v := .agg #[.int .i64 n, .int .i64 0, .pointer none]) rfl ?_
  intro w1 hb1 hk1 hz1
  have HC := hide (clear_core w1 w.heap.size n 0 none hb1)
  have HK1 := hide hk1
  clear hb1 hk1 hz1
  simp only [put_lit, List.set_cons_succ, List.set_cons_zero]
  go_wp2_with fail
  refine HC.out.mono ?_
  rintro e w2 ⟨rfl, hk2, X', hp, hX⟩
  go_wp2
  go_ret2
  refine ⟨_, X', rfl, hp, HK1.out.trans hk2 (fun k hk e => by omega), fun k hk => ?_⟩
  rcases hX k hk with e | e
  · omega
  · exact Nat.le_trans HK1.out.size e

theorem open_nil (w : World) : Calls Try.prog 13 #[.pointer none] w fun e w' => e = .returned (.slice none 0 0) ∧ w = w' := by
  go_enter Try.func13, Try.ntmps13
  go_wp2
  go_ret
  exact ⟨rfl, rfl⟩
/-- A slice of ints that is read. -/
def IntsAt (w : World) (s : Sl) (l : List Int) : Prop := s.n = l.length ∧ (0 < l.length → ∃ g, s.a = some ⟨g, 0, none⟩ ∧ Cells w g 0 (l.map (Value.int .i64)))
theorem open_at (w : World) (b : Nat) (n last : Int) (L : Txs) (X : NSet) (h : BkAt w b n last L X) (hl : L.length ≤ 1000) :
    Calls Try.prog 13 #[.pointer (some ⟨b, 0, none⟩)] w fun e w' => ∃ s : Sl, e = .returned (.slice s.a s.n s.c) ∧ IntsAt w' s (L.map (·.1)) ∧ Kept (fun _ => False) w w' := by
  obtain ⟨p, v, E, h, hL, hx⟩ := h
  have hEL : E.length = L.length := by rw [← hL, rowsX_len]
  have HC := hide (keys_atW w p v (entsX E) h.m (by rw [entsX_len]; omega))
  have c2 : w.cell? ⟨b, 2, none⟩ = some (.pointer (some ⟨p, 0, none⟩)) := h.blk.cell 2
  have HE : Hid ((entsX E).map (fun x => (Value.int .i64 x.1)) = (L.map (·.1)).map (Value.int .i64) ∧ (entsX E).length = L.length) := hide ⟨by
    rw [← hL]; unfold entsX rowsX mapK; rw [List.map_map, List.map_map, List.map_map]; rfl, by rw [entsX_len, hEL]⟩
  clear h hx hL
  go_enter Try.func13, Try.ntmps13
  go_wp2_with fail
  refine HC.out.mono ?_
  rintro e w1 ⟨kv, rfl, ho, hk⟩
  obtain ⟨ao, m, c, rfl⟩ := ownsRow_slice3 ho
  have HO := hide ho
  clear ho
  go_wp2
  go_ret
  refine ⟨⟨ao, m, c⟩, rfl, ?_, hk⟩
  have ho := HO.out
  rw [HE.out.1] at ho
  rcases ownsRow_blk ho with ⟨e, h1, _⟩ | ⟨g, cap, C, e, hb, hnc, hcm, hC⟩
  · cases e
    rw [HE.out.2] at h1
    exact ⟨by simp [h1], fun h => by rw [List.length_map] at h; omega⟩
  · cases e
    refine ⟨by rw [List.length_map]; exact HE.out.2, fun _ => ⟨g, rfl, ?_⟩⟩
    have hc := hb.cells 0 L.length
    rw [List.drop_zero, List.take_append_of_le_length (by simp), List.take_of_length_le (by simp)] at hc
    exact hc

theorem end_nil (w : World) (h : Int) : Calls Try.prog 11 #[.pointer none, .int .i64 h] w fun e w' => e = .returned (.int .i64 1) ∧ w = w' := by
  go_enter Try.func11, Try.ntmps11
  go_wp2
  go_ret
  exact ⟨rfl, rfl⟩
theorem end_at (w : World) (b : Nat) (n last : Int) (L : Txs) (X : NSet) (h : BkAt w b n last L X) (hl : L.length ≤ 1000) (t : Int) :
    Calls Try.prog 11 #[.pointer (some ⟨b, 0, none⟩), .int .i64 t] w fun e w' => e = .returned (.int .i64 (if hasK ltI L t then 0 else 40)) ∧ BStep w w' b n last (delK ltI L t) X := by
  obtain ⟨p, v, E, h, hL, hx⟩ := h
  have hEL : E.length = L.length := by rw [← hL, rowsX_len]
  have HC := hide (delete_atW w p v (entsX E) t h.m (by rw [entsX_len]; omega))
  have c2 : w.cell? ⟨b, 2, none⟩ = some (.pointer (some ⟨p, 0, none⟩)) := h.blk.cell 2
  have hhas : hasK ltI (entsX E) t = hasK ltI L t := by rw [← hL]; unfold entsX rowsX; rw [hasK_map, hasK_map]
  have hdel : delK ltI (entsX E) t = entsX (delK ltI E t) := delK_map _ _ _
  have HR : Hid (rowsX (delK ltI E t) = delK ltI L t) := hide (by rw [← hL]; exact (delK_map _ _ _).symm)
  rw [hhas, hdel] at HC
  have HF : Hid (∀ w', StepW w w' p v (entsX (delK ltI E t)) → BStep w w' b n last (delK ltI L t) X) := hide (by
    rintro w' ⟨v', hm', hk', hf'⟩
    have ha := h.aside hk'
    refine ⟨hk'.mono (fun k _ hk => (hx k).2 (.inr (.inl hk))), _, ⟨p, v', delK ltI E t, ⟨hk'.blk h.blk h.nb, hm', fun x hx => ha x (mem_delK hx)⟩, HR.out, fun _ => Iff.rfl⟩, ?_⟩
    rintro k (hk | hk | ⟨x, hx', hk⟩)
    · exact .inl ((hx k).2 (.inl hk))
    · exact (hf' k hk).imp (fun h => (hx k).2 (.inr (.inl h))) id
    · exact .inl ((hx k).2 (.inr (.inr ⟨x, mem_delK hx', hk⟩))))
  clear h hx hL hhas hdel HR hEL
  cases hh : hasK ltI L t with
  | true =>
    rw [hh] at HC
    go_enter Try.func11, Try.ntmps11
    go_wp2_with fail
    refine HC.out.mono ?_
    rintro e w1 ⟨rfl, hs⟩
    have HS := hide hs
    clear hs
    go_wp2
    go_ret
    exact ⟨rfl, HF.out _ HS.out⟩
  | false =>
    rw [hh] at HC
    go_enter Try.func11, Try.ntmps11
    go_wp2_with fail
    refine HC.out.mono ?_
    rintro e w1 ⟨rfl, hs⟩
    have HS := hide hs
    clear hs
    go_wp2
    go_ret
    exact ⟨rfl, HF.out _ HS.out⟩
end Go.Proofs.Ytclfklcboigifaa
