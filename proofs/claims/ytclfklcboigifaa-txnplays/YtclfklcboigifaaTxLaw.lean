/-
  A book in a law's own hands; the law's operations in memory; a map of texts by blocks.
-/
import Derived.Test.YtclfklcboigifaaTxW
import Derived.Test.YtclfklcboigifaaMapI
import Derived.Maps.OwnSet
import Derived.Maps.StringElems
namespace Go.Proofs.Ytclfklcboigifaa
open Go.RowKit Go.Shelf Go.Maps
set_option linter.unusedSimpArgs false
set_option linter.unusedVariables false
set_option maxRecDepth 100000

/-- A book that is new since w0; nothing of w0 is changed. -/
structure Tw (w0 w : World) (b : Nat) (n last : Int) (L : Txs) (X : NSet) : Prop where
  at_ : BkAt w b n last L X
  kept : Kept (fun _ => False) w0 w
  new : ∀ k, X k → w0.heap.size ≤ k
section
variable {w0 w w' : World} {b : Nat} {n last last' : Int} {L L' : Txs} {X S : NSet}
theorem Tw.same (h : Tw w0 w b n last L X) (hk : Kept (fun _ => False) w w') : Tw w0 w' b n last L X := ⟨h.at_.kept hk (fun _ _ h => h), h.kept.trans hk (fun _ _ h => h), h.new⟩
theorem Tw.keptS (h : Tw w0 w b n last L X) (hk : Kept S w w') (h1 : ∀ k, X k → ¬ S k) (h2 : ∀ k, S k → w0.heap.size ≤ k) : Tw w0 w' b n last L X :=
  ⟨h.at_.kept hk h1, h.kept.trans hk (fun k hk' hs => by have := h2 k hs; omega), h.new⟩
theorem Tw.step (h : Tw w0 w b n last L X) (hs : BStep w w' b n last' L' X) : ∃ X', Tw w0 w' b n last' L' X' ∧ Kept X w w' ∧ ∀ k, X' k → X k ∨ w.heap.size ≤ k := by
  obtain ⟨h1, X', h2, h3⟩ := hs
  refine ⟨X', ⟨h2, h.kept.trans h1 (fun k hk hx => by have := h.new k hx; omega), fun k hk => ?_⟩, h1, h3⟩
  rcases h3 k hk with e | e
  · exact h.new k e
  · exact Nat.le_trans h.kept.size e
theorem Tw.lt (h : Tw w0 w b n last L X) : ∀ k, X k → k < w.heap.size := h.at_.lt
end

/-- An operation of the law. -/
structure OpT where
  kd : Int
  h : Int
  k : Int
  s : Sl
  B : List Nat
abbrev OpT.cells (o : OpT) : List Value := [.int .i64 o.kd, .int .i64 o.h, .int .i64 o.k, .slice o.s.a o.s.n o.s.c]
structure OpIsT (w : World) (o : OpT) : Prop where
  src : Src w o.s.v o.B
  k : -9223372036854775808 ≤ o.kd ∧ o.kd ≤ 9223372036854775807
  kk : -9223372036854775808 ≤ o.k ∧ o.k ≤ 9223372036854775807
theorem OpIsT.kept {w w' : World} {o : OpT} (h : OpIsT w o) (hk : Kept (fun _ => False) w w') : OpIsT w' o := ⟨h.src.kept hk, h.k, h.kk⟩
theorem OpIsT.len {w : World} {o : OpT} (h : OpIsT w o) : o.s.n = o.B.length := by
  obtain ⟨bo, c, e, _⟩ := h.src
  simp only [Sl.v, Value.slice.injEq] at e
  exact e.2.1
/-- v is a slice of n operations. -/
def OpsT (w : World) (v : Value) (n : Nat) : Prop := ∃ ao cap, v = .slice ao n cap ∧ n ≤ 9223372036854775807 ∧ ∀ k, k < n → ∃ (g off : Nat) (o : OpT), ao = some ⟨g, off, none⟩ ∧ Cells w g (off + k * 4) o.cells ∧ OpIsT w o
theorem OpsT.slice {w : World} {v : Value} {n : Nat} (h : OpsT w v n) : ∃ ao cap, v = .slice ao n cap ∧ n ≤ 9223372036854775807 := by
  obtain ⟨ao, cap, e, h, _⟩ := h
  exact ⟨ao, cap, e, h⟩
theorem OpsT.get {w w' : World} {ao : Option Addr} {n cap : Nat} (h : OpsT w (.slice ao n cap) n) (hk : Kept (fun _ => False) w w') {k : Nat} (hkn : k < n) : ∃ (g off : Nat) (o : OpT), ao = some ⟨g, off, none⟩ ∧ Cells w' g (off + k * 4) o.cells ∧ OpIsT w' o ∧ OpIsT w o := by
  obtain ⟨ao', cap', e, _, h⟩ := h
  cases e
  obtain ⟨g, off, o, e, hc, ho⟩ := h k hkn
  exact ⟨g, off, o, e, hk.cells hc (fun h => h), ho.kept hk, ho⟩
theorem Try.info42 : (Try.prog.info? 42).map (fun i => (i.zero, i.size, i.bytes)) = some (some (.agg #[.int .i64 0, .int .i64 0, .int .i64 0, .slice none 0 0]), 4, 48) := by kernel_rfl
theorem Try.agg42 : aggSize Try.prog 42 4 := by
  obtain ⟨i0, hi, _, hs, _⟩ := info_parts Try.info42
  exact ⟨⟨i0, hi, hs⟩, _, Try.underlying42, .inr ⟨_, rfl⟩⟩

/-- The text of some bytes, as an element of a map reads. -/
def txtL (B : List Nat) : Lit := .string (strN B).data.toList
def txtOf (o : Option Wr) : Lit := match o with
  | some x => txtL x.B
  | none => .string []
/-- Block b is a map from ints to texts that tells the writes M. -/
def MapS (w : World) (b : Nat) (M : List Wr) (m : Nat) : Prop :=
  ∃ D : DataW Unit, w.ownsMap Try.prog 3 (plainElem Try.prog 9) b m D ∧ Tidy D ∧ size D = M.length ∧ (∀ k : Int, has D (.int .i64 k) = (findW M k).isSome) ∧ ∀ k : Int, D.atKey (.int .i64 k) (.lit (.string [])) = .lit (txtOf (findW M k))
theorem MapS.lt {w : World} {b m : Nat} {M : List Wr} (h : MapS w b M m) : b < w.heap.size := by
  obtain ⟨D, h1, _⟩ := h
  exact h1.lt
theorem MapS.kept {w w' : World} {b m : Nat} {M : List Wr} {S : Nat → Prop} (h : MapS w b M m) (hk : Kept S w w') (hn : ¬ S b) : MapS w' b M m := by
  obtain ⟨D, h1, h2⟩ := h
  have hlt := h1.lt
  obtain ⟨es, clock, hb, F, hs, hD⟩ := h1
  exact ⟨D, ⟨es, clock, (hk.block b hlt hn).trans hb, F, hs, hD⟩, h2⟩
theorem MapS.ne {w : World} {b c m : Nat} {M : List Wr} {L : List Value} {t : TypeId} (h : MapS w b M m) (hb : Blk w c L t) : b ≠ c := by
  obtain ⟨D, ⟨es, clock, hm, _⟩, _⟩ := h
  rintro rfl
  unfold Blk at hb
  rw [hm] at hb
  cases hb
theorem MapS.made (w : World) : MapS (w.alloc (.map #[] 0)) w.heap.size [] 0 :=
  ⟨.map [], World.ownsMap_made w Try.prog 3 _, tidy_empty, rfl, fun _ => rfl, fun _ => rfl⟩
theorem plain_str {B : List Nat} (h : B.length ≤ 1000000) : plainElem (H := Unit) Try.prog 9 (.string (strN B)) = some (.lit (txtL B), []) := by
  have h1 : (strN B).size ≤ maxLen := by rw [strN_size]; unfold maxLen; omega
  simp [plainElem, Try.underlying9, h1, txtL]
theorem MapS.update {w : World} {b m : Nat} {M : List Wr} {t : TypeId} (h : MapS w b M m) (hr : Rising M) (ht : Try.prog.underlying t = some (.map 3 9)) (hn : m < maxLen) {k : Int} (hk : -9223372036854775808 ≤ k ∧ k ≤ 9223372036854775807) {B : List Nat} (hB : B.length ≤ 1000000) :
    ∃ w', (Instr.mapUpdate t (.map (some b)) (.int .i64 k) (.string (strN B))).run Try.prog w = .ok () w' ∧ MapS w' b (insW M ⟨k, B⟩) (m + 1) ∧ Kept (fun j => j = b) w w' := by
  obtain ⟨D, h1, hD, hs, hh, hf⟩ := h
  obtain ⟨w', hrun, h2, hg⟩ := h1.update (int_keyed Try.underlying3) ht hn (keyOf_int_mk Try.underlying3 (WalkArith.wf_i64 hk)) (plain_str hB)
  have hfind : ∀ j : Int, findW (insW M ⟨k, B⟩) j = if k = j then some ⟨k, B⟩ else findW M j := fun j => insW_find ⟨k, B⟩ j hr
  refine ⟨w', hrun, ⟨_, h2, hD.put (k := .int .i64 k) trivial _, ?_, fun j => ?_, fun j => ?_⟩, (Kept.of_grown hg).mono (fun i _ h => by cases h; rfl)⟩
  · rw [Maps.size_put hD, hh, hs, insW_len ⟨k, B⟩ hr]
  · rw [hfind]
    by_cases hj : k = j
    · subst hj; rw [if_pos rfl]; exact has_put_same (k := .int .i64 k) hD.isMap trivial _
    · rw [if_neg hj, has_put_other (by intro e; cases e; exact hj rfl), hh]
  · rw [hfind]
    by_cases hj : k = j
    · subst hj; rw [if_pos rfl]; exact atKey_put_same (k := .int .i64 k) hD.isMap trivial _ _
    · rw [if_neg hj, atKey_put_other (by intro e; cases e; exact hj rfl), hf]
theorem zero9 (w : World) : (zeroValue 9).run Try.prog w = .ok (.string ⟨#[]⟩) w := by kernel_rfl
theorem plain_str0 : plainElem (H := Unit) Try.prog 9 (.string ⟨#[]⟩) = some (.lit (.string []), []) := by
  have h1 : (⟨#[]⟩ : ByteArray).size ≤ maxLen := by unfold maxLen; exact Nat.zero_le _
  simp only [plainElem, Try.underlying9, if_pos h1]
theorem plain_str_inv {v : Value} {z : Lit} {ps : List MemPlace} {B : List Nat} (h : plainElem (H := Unit) Try.prog 9 v = some (.lit z, ps)) (hz : z = txtL B) : v = .string (strN B) := by
  subst hz
  unfold plainElem at h
  rw [Try.underlying9] at h
  cases v <;> simp at h
  obtain ⟨_, h, _⟩ := h
  simp only [txtL, Lit.string.injEq] at h
  congr 1
  apply ByteArray.ext
  exact Array.ext' h
theorem txt_none : (Lit.string [] : Lit) = txtL [] := by simp [txtL, strN, strOfNums]
/-- The bytes that a map tells. -/
def bytesOf (o : Option Wr) : List Nat := (o.map (·.B)).getD []
theorem txtOf_eq (o : Option Wr) : txtOf o = txtL (bytesOf o) := by
  cases o with
  | none => exact txt_none
  | some x => rfl
theorem MapS.look {w : World} {b m : Nat} {M : List Wr} {t : TypeId} (h : MapS w b M m) (ht : Try.prog.underlying t = some (.map 3 9)) {k : Int} (hk : -9223372036854775808 ≤ k ∧ k ≤ 9223372036854775807) :
    (Instr.lookup t (.map (some b)) (.int .i64 k) false).run Try.prog w = .ok (.string (strN (bytesOf (findW M k)))) w := by
  obtain ⟨D, h1, hD, hs, hh, hf⟩ := h
  obtain ⟨v, ps, hr, hv⟩ := h1.lookup (int_keyed Try.underlying3) ht (zero9 w) plain_str0 (keyOf_int_mk Try.underlying3 (WalkArith.wf_i64 hk))
  rw [hf k] at hv
  rw [hr, plain_str_inv hv (txtOf_eq _)]
theorem MapS.look_ok {w : World} {b m : Nat} {M : List Wr} {t : TypeId} (h : MapS w b M m) (ht : Try.prog.underlying t = some (.map 3 9)) {k : Int} (hk : -9223372036854775808 ≤ k ∧ k ≤ 9223372036854775807) :
    (Instr.lookup t (.map (some b)) (.int .i64 k) true).run Try.prog w = .ok (.tuple #[.string (strN (bytesOf (findW M k))), .bool (findW M k).isSome]) w := by
  obtain ⟨D, h1, hD, hs, hh, hf⟩ := h
  obtain ⟨v, ps, hr, hv⟩ := h1.look_ok (int_keyed Try.underlying3) ht (zero9 w) plain_str0 (keyOf_int_mk Try.underlying3 (WalkArith.wf_i64 hk))
  rw [hf k] at hv
  rw [hr, plain_str_inv hv (txtOf_eq _), hh]
theorem MapS.len {w : World} {b m : Nat} {M : List Wr} {t : TypeId} (h : MapS w b M m) (ht : Try.prog.underlying t = some (.map 3 9)) (ty : TypeId) : (Builtin.len_ #[t] ty #[.map (some b)]).run Try.prog w = .ok (.int .i64 (M.length : Nat)) w := by
  obtain ⟨D, h1, hD, hs, hh, hf⟩ := h
  rw [h1.len ht ty, hs]
end Go.Proofs.Ytclfklcboigifaa
