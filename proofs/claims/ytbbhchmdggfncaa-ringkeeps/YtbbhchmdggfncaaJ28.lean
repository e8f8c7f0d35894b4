/-
  entries, of package ring, as a sequence.
-/
import Derived.Test.YtbbhchmdggfncaaJ27
import Derived.Test.YtbbhchmdggfncaaJ26
namespace Go.Proofs.Ytbbhchmdggfncaa
open Go.RowKit Go.Shelf
set_option linter.unusedSimpArgs false
set_option linter.unusedVariables false
set_option maxRecDepth 100000

theorem entries_ok {B : List Nat} {b1 b2 b3 b4 size : Nat} {v : Value} {lsn e0 e1 : Int} {W : World} (h1 : Blk W b1 [.int .i64 lsn] 3) (h2 : Blk W b2 [.int .i64 e0, .int .i64 e1] 56) (h3 : Blk W b3 [.int .i64 size] 3) (h4 : Blk W b4 [v] 22) (hv : Src W v B) (hB : B.length = 64 * size) (hz : 0 < size ∧ size ≤ 15000) (hl : 0 ≤ lsn ∧ lsn ≤ 4611686018427300000) :
    SeqOk Try.prog (.func (.func 48) #[] #[.pointer (some ⟨b1, 0, none⟩), .pointer (some ⟨b2, 0, none⟩), .pointer (some ⟨b3, 0, none⟩), .pointer (some ⟨b4, 0, none⟩)]) EEn (walkB size e1 B (size + 1) (lsn.toNat % size) lsn e0) (enX b1 b2 b3 b4 v) (fun _ => False) (fun _ _ _ => True) W := by
  refine ⟨.inl ⟨_, _, rfl⟩, ?_, fun _ _ h => h, EEn.ok _, fun _ _ _ _ _ _ _ _ => trivial, ?_⟩
  · rintro k ((h | h | h | h | h) | h)
    · rw [h]; exact h1.lt
    · rw [h]; exact h2.lt
    · rw [h]; exact h3.lt
    · rw [h]; exact h4.lt
    · exact hv.vlt (by omega) h
    · exact h.elim
  · intro _ W' S hk hS
    exact entries1_at (hk.blk h1 (fun h => (hS _ h).1 (.inl rfl))) (hk.blk h2 (fun h => (hS _ h).1 (.inr (.inl rfl)))) (hk.blk h3 (fun h => (hS _ h).1 (.inr (.inr (.inl rfl))))) (hk.blk h4 (fun h => (hS _ h).1 (.inr (.inr (.inr (.inl rfl)))))) (hv.keptC hk (fun k h0 hx hs => (hS k hs).1 (.inr (.inr (.inr (.inr hx)))))) hB hz hl
end Go.Proofs.Ytbbhchmdggfncaa


/-
  entries, of package ring: what its call answers.
-/
namespace Go.Proofs.Ytbbhchmdggfncaa
open Go.RowKit Go.Shelf
set_option linter.unusedSimpArgs false
set_option linter.unusedVariables false
set_option maxRecDepth 100000

set_option maxHeartbeats 2000000 in
theorem entries_at (W : World) (so : Option Addr) (size cap : Nat) (lsn e0 e1 : Int) (hz : size ≤ 15000) :
    Calls Try.prog 36 #[.slice so (64 * size) cap, .int .i64 lsn, .agg #[.int .i64 e0, .int .i64 e1]] W fun e W' => ∃ b1 b2 b3 b4, e = .returned (.func (.func 48) #[] #[.pointer (some ⟨b1, 0, none⟩), .pointer (some ⟨b2, 0, none⟩), .pointer (some ⟨b3, 0, none⟩), .pointer (some ⟨b4, 0, none⟩)]) ∧
      Blk W' b1 [.int .i64 lsn] 3 ∧ Blk W' b2 [.int .i64 e0, .int .i64 e1] 56 ∧ Blk W' b3 [.int .i64 size] 3 ∧ Blk W' b4 [.slice so (64 * size) cap] 22 ∧ Kept (fun _ => False) W W' ∧ W.heap.size ≤ b1 ∧ W.heap.size ≤ b2 ∧ W.heap.size ≤ b3 ∧ W.heap.size ≤ b4 := by
  obtain ⟨i3, hi3, hz3, hs3, hb3⟩ := info_parts Try.info3
  have Hi3 := hide hi3
  have Hz3 := hide hz3
  have Hs3 := hide hs3
  clear hi3 hz3 hs3 hb3
  obtain ⟨n, hn⟩ : ∃ n, n = 64 * size := ⟨_, rfl⟩
  rw [← hn]
  have hq : (n : Int).tdiv 64 = (size : Int) := by rw [Int.tdiv_eq_ediv_of_nonneg (by omega), hn]; omega
  have hw : IntKind.i64.wrap (size : Int) = (size : Int) := by rw [IntKind.wrap_i64]; omega
  have hw2 : wrap64 (size : Int) = (size : Int) := by unfold wrap64; omega
  have Hw2 := hide hw2
  clear hn hz hw hw2
  go_enter Try.func36, Try.ntmps36
  go_wp2_with (first
    | ((with_reducible refine aw_box (t := 22) (v := .slice so n cap) rfl ?_); intro w1 hb1 hk1 hz1; have Hz1 := hide hz1; have Hb1 := hide hb1; have Hk1 := hide hk1; clear hz1 hb1 hk1)
    | ((with_reducible refine aw_box (t := 3) (v := .int .i64 lsn) rfl ?_); intro w2 hb2 hk2 hz2; have Hz2 := hide hz2; have Hb2 := hide hb2; have Hk2 := hide hk2; clear hz2 hb2 hk2)
    | ((with_reducible refine aw_box (t := 56) (v := .agg #[.int .i64 e0, .int .i64 e1]) rfl ?_); intro w3 hb3 hk3 hz3; have Hz3' := hide hz3; have Hb3 := hide hb3; have Hk3 := hide hk3; have c4 : w3.cell? ⟨W.heap.size, 0, none⟩ = some (.slice so n cap) := ((Hk2.out.trans hk3 (fun _ _ h => h)).blk Hb1.out (fun h => h)).cell 0; clear hz3 hb3 hk3)
    | ((with_reducible refine aw_alloc (t := 3) Hi3.out Hz3.out ?_); intro w4 hb4 hk4 hz4; have Hz4 := hide hz4; have Hk4 := hide hk4; clear hz4 hk4)
    | (with_reducible refine stop_store 3 ?_))
  refine hide ?_
  refine aw_store1 (v := .int .i64 (wrap64 (size : Int))) (off := 0) Hi3.out Hs3.out rfl rfl rfl rfl hb4 (by simp [Value.cells]) ?_
  intro w5 hb5 hk5 hz5
  rw [Hw2.out] at hb5
  have Hb5 := hide hb5
  have Hk5 := hide hk5
  clear hb5 hk5 hz5 hb4
  try simp only [put_lit, put_none, List.set_cons_succ, List.set_cons_zero]
  go_wp2
  go_ret
  have hk45 : Kept (fun _ => False) w3 w5 := Hk4.out.trans Hk5.out (fun i hi h => by omega)
  have hk35 := Hk3.out.trans hk45 (fun _ _ h => h)
  have hk25 := Hk2.out.trans hk35 (fun _ _ h => h)
  refine ⟨_, _, _, _, rfl, hk35.blk Hb2.out (fun h => h), hk45.blk Hb3.out (fun h => h), Hb5.out, hk25.blk Hb1.out (fun h => h), Hk1.out.trans hk25 (fun _ _ h => h), Hk1.out.size, (Hk1.out.trans Hk2.out (fun _ _ h => h)).size, ((Hk1.out.trans Hk2.out (fun _ _ h => h)).trans Hk3.out (fun _ _ h => h)).size, Nat.le_refl _⟩
end Go.Proofs.Ytbbhchmdggfncaa


/-
  Entries of one's own: a slice of them that is appended to.
-/
namespace Go.Proofs.Ytbbhchmdggfncaa
open Go.RowKit Go.Shelf
set_option linter.unusedSimpArgs false
set_option linter.unusedVariables false
set_option maxRecDepth 100000

/-- An entry in memory. -/
structure Ev where
  l : Int
  e : Int
  n : Int
  y : Rv
def Ev.en (x : Ev) : En := ⟨x.l, x.e, x.n, x.y.rc⟩
def evC (x : Ev) : List Value := [.int .i64 x.l, .int .i64 x.e, .int .i64 x.n, .int .i64 x.y.kd, .int .i64 x.y.tl, .int .i64 x.y.nm, .slice x.y.s.a x.y.s.n x.y.s.c]
theorem evC_len (L : List Ev) : (L.flatMap evC).length = L.length * 7 := by
  induction L with
  | nil => rfl
  | cons x L ih => simp [List.flatMap_cons, ih, evC]; omega
/-- v is one's own slice of the entries L, whose records are one's own. -/
def EvOwn (w : World) (v : Value) (L : List Ev) : Prop := w.ownsRow 0 58 7 v L.length (L.flatMap evC) ∧ ∀ x ∈ L, WsOwn w x.y.s.v x.y.ws ∧ x.y.ws.length ≤ 65535
/-- The blocks of all. -/
def evX (v : Value) (L : List Ev) (k : Nat) : Prop := v.ownBlock = some k ∨ ∃ x ∈ L, rvX x.y k
theorem EvOwn.nil (w : World) : EvOwn w (.slice none 0 0) [] := ⟨World.ownsRow_nil _ _ _ _, by simp⟩
theorem wsOwn_keptX {S : NSet} {w w' : World} {y : Rv} (h : WsOwn w y.s.v y.ws) (hk : Kept S w w') (hS : ∀ k, S k → ¬ rvX y k) : WsOwn w' y.s.v y.ws :=
  h.kept hk (fun k hv hs => hS k hs (.inl hv)) (fun z hz k hv hs => hS k hs (.inr ⟨z, hz, hv⟩))
theorem EvOwn.kept {S : NSet} {w w' : World} {v : Value} {L : List Ev} (h : EvOwn w v L) (hk : Kept S w w') (hS : ∀ k, S k → ¬ evX v L k) : EvOwn w' v L :=
  ⟨ownsRow_kept h.1 hk (fun k hv hs => hS k hs (.inl hv)), fun x hx => ⟨wsOwn_keptX (h.2 x hx).1 hk (fun k hs hr => hS k hs (.inr ⟨x, hx, hr⟩)), (h.2 x hx).2⟩⟩
theorem wsOwn_lt {w : World} {y : Rv} (h : WsOwn w y.s.v y.ws) (k : Nat) (hk : rvX y k) : k < w.heap.size := by
  rcases hk with hk | ⟨z, hz, hk⟩
  · exact ownsRow_lt h.1 k hk
  · exact ownsRow_lt (h.2 z hz).1 k hk
theorem EvOwn.lt {w : World} {v : Value} {L : List Ev} (h : EvOwn w v L) (k : Nat) (hk : evX v L k) : k < w.heap.size := by
  rcases hk with hk | ⟨x, hx, hk⟩
  · exact ownsRow_lt h.1 k hk
  · exact wsOwn_lt (h.2 x hx).1 k hk
/-- The row of entries is no block of a record. -/
theorem row_rvX {w : World} {v : Value} {n : Nat} {xs : List Value} (h : w.ownsRow 0 58 7 v n xs) {y : Rv} (hy : WsOwn w y.s.v y.ws) (k : Nat) (hk : v.ownBlock = some k) : ¬ rvX y k := by
  rintro (h2 | ⟨z, hz, h2⟩)
  · exact own_apart h hy.1 (by decide) k hk h2
  · exact own_apart h (hy.2 z hz).1 (by decide) k hk h2
theorem rvX_ne {w : World} {y : Rv} (hy : WsOwn w y.s.v y.ws) {b : Nat} {M : List Value} {t : TypeId} (hb : Blk w b M t) (h1 : t ≠ 39) (h2 : t ≠ 5) : ¬ rvX y b := by
  rintro (h | ⟨z, hz, h⟩)
  · exact ownsRow_blk_ne hy.1 hb h1 h
  · exact (hy.2 z hz).blk_ne hb h2 h
theorem EvOwn.ne {w : World} {v : Value} {L : List Ev} (h : EvOwn w v L) {b : Nat} {M : List Value} {t : TypeId} (hb : Blk w b M t) (h0 : t ≠ 58) (h1 : t ≠ 39) (h2 : t ≠ 5) : ¬ evX v L b := by
  rintro (h3 | ⟨x, hx, h3⟩)
  · exact ownsRow_blk_ne h.1 hb h0 h3
  · exact rvX_ne (h.2 x hx).1 hb h1 h2 h3
/-- One more entry is appended. -/
theorem EvOwn.snoc {w : World} {v : Value} {L : List Ev} (h : EvOwn w v L) (x : Ev) (ho : WsOwn w x.y.s.v x.y.ws) (h65 : x.y.ws.length ≤ 65535) {g : Nat} (hg : Blk w g (evC x) 58) (hl : L.length ≤ 1000000) (ty : TypeId) :
    ∃ v' w', (Builtin.append_ #[48, 48] ty #[v, .slice (some ⟨g, 0, none⟩) 1 1]).run Try.prog w = .ok v' w' ∧ EvOwn w' v' (L ++ [x]) ∧ Kept (fun k => v.ownBlock = some k) w w' ∧ (v'.ownBlock = v.ownBlock ∨ v'.ownBlock = some w.heap.size) := by
  obtain ⟨i0, hi, hz, hs, hb⟩ := info_parts Try.info58
  obtain ⟨v', w', hr, h2, h3, _, h5⟩ := run_append_own_at (P := Try.prog) w 0 48 ty 58 i0 _ 7 _ Try.underlying48 hi hz hs hb rfl (by decide) v L.length _ h.1 ⟨g, 0, none⟩ 1 1 (evC x) rfl (fun j u hj => by rw [addr_add, hg.cell, Nat.zero_add]; exact hj) (by simp [evC, Value.oneCell']) (by unfold maxLen; omega) (by omega) (Nat.zero_le _)
  have hk := Kept.of_grown h3
  refine ⟨v', w', hr, ⟨?_, ?_⟩, hk, h5⟩
  · rw [List.flatMap_append, List.length_append]
    simpa using h2
  · intro y hy
    rcases List.mem_append.1 hy with hy | hy
    · exact ⟨wsOwn_keptX (h.2 y hy).1 hk (fun k hv => row_rvX h.1 (h.2 y hy).1 k hv), (h.2 y hy).2⟩
    · simp at hy
      subst hy
      exact ⟨wsOwn_keptX ho hk (fun k hv => row_rvX h.1 ho k hv), h65⟩
/-- Where the row lies behind an append. -/
theorem evX_snoc {v v' : Value} {L : List Ev} {x : Ev} {N : Nat} (h5 : v'.ownBlock = v.ownBlock ∨ v'.ownBlock = some N) (k : Nat) (hk : evX v' (L ++ [x]) k) : evX v L k ∨ rvX x.y k ∨ k = N := by
  rcases hk with hk | ⟨y, hy, hk⟩
  · rcases h5 with h | h
    · exact .inl (.inl (by rw [← h]; exact hk))
    · rw [h] at hk; cases hk; exact .inr (.inr rfl)
  · rcases List.mem_append.1 hy with hy | hy
    · exact .inl (.inr ⟨y, hy, hk⟩)
    · simp at hy
      subst hy
      exact .inr (.inl hk)
end Go.Proofs.Ytbbhchmdggfncaa


/-
  Loops over sequences leave marks behind: how a function with many of them is left. A region's operation that leaves nothing.
-/
namespace Go.Proofs.Ytbbhchmdggfncaa
open Go.RowKit Go.Shelf
set_option linter.unusedSimpArgs false
set_option linter.unusedVariables false
set_option maxRecDepth 100000

def mkD (D : Nat) : Deferred := { target := .collected D, args := #[] }
theorem leaves_all {F : Fence} {n : Nat} {P : Program} {fn : Func} {tmps : Array Value} {R : Ending → World → Prop} : ∀ (Ds : List Nat) (W : World), Ds.Nodup → (∀ D ∈ Ds, W.heap[D]? = some (.deferred (some []))) →
    (∀ W', Kept (fun k => k ∈ Ds) W W' → LeavesInM F n P fn tmps R [] .returning W') → LeavesInM F n P fn tmps R (Ds.map mkD) .returning W
  | [], W, _, _, h => h W (Kept.refl _ _)
  | D :: Ds, W, hn, hD, h => by
    have hDD := hD D (by simp)
    obtain ⟨hn1, hn2⟩ := List.nodup_cons.1 hn
    refine ⟨by simp, .inl ⟨D, _, rfl, run_takeDeferred hDD, ?_⟩⟩
    refine leaves_all Ds _ hn2 (fun E hE => ?_) (fun W' hk => h W' ?_)
    · have hne : E ≠ D := fun e => hn1 (e ▸ hE)
      exact (World.putObj_heap_other hne).trans (hD E (by simp [hE]))
    · exact ((Kept.putObj W D _).mono (T := fun k => k ∈ D :: Ds) (fun k _ e => by simp [e])).trans hk (fun k _ h => by simp [h])
end Go.Proofs.Ytbbhchmdggfncaa
