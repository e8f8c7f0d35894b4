/-
  Maps keyed by ints whose elements are ints or bools, as functions. Nothing of a program's dump is used here.
-/
import Derived.Test.YtclfklcboigifaaBlkB
import Derived.Maps.OwnSet
import Derived.Maps.OwnOps
namespace Go.Proofs.Ytclfklcboigifaa
open Go.RowKit Go.Maps
set_option linter.unusedSimpArgs false
set_option linter.unusedVariables false
set_option maxRecDepth 100000

/-- Block b is a map of at most n entries, from ints to elements of type e, that tells f; z where there is none. -/
def MapL (P : Program) (w : World) (b : Nat) (e : TypeId) (z : Lit) (f : Int → Lit) (n : Nat) : Prop :=
  ∃ D : DataW Unit, w.ownsMap P 3 (plainElem P e) b n D ∧ IsMap D ∧ ∀ k : Int, D.atKey (.int .i64 k) (.lit z) = .lit (f k)
theorem MapL.lt {P : Program} {w : World} {b : Nat} {e : TypeId} {z : Lit} {f : Int → Lit} {n : Nat} (h : MapL P w b e z f n) : b < w.heap.size := by
  obtain ⟨D, h1, _⟩ := h
  exact h1.lt
theorem MapL.kept {P : Program} {w w' : World} {b : Nat} {e : TypeId} {z : Lit} {f : Int → Lit} {n : Nat} {S : Nat → Prop} (h : MapL P w b e z f n) (hk : Kept S w w') (hn : ¬ S b) : MapL P w' b e z f n := by
  obtain ⟨D, h1, h2⟩ := h
  have hlt := h1.lt
  obtain ⟨es, clock, hb, F, hs, hD⟩ := h1
  exact ⟨D, ⟨es, clock, (hk.block b hlt hn).trans hb, F, hs, hD⟩, h2⟩
theorem MapL.mono {P : Program} {w : World} {b : Nat} {e : TypeId} {z : Lit} {f : Int → Lit} {n m : Nat} (h : MapL P w b e z f n) (hn : n ≤ m) : MapL P w b e z f m := by
  obtain ⟨D, h1, h2⟩ := h
  exact ⟨D, h1.mono hn, h2⟩
/-- No block of cells is it. -/
theorem MapL.ne {P : Program} {w : World} {b : Nat} {e : TypeId} {z : Lit} {f : Int → Lit} {n c : Nat} {L : List Value} {t : TypeId} (h : MapL P w b e z f n) (hb : Blk w c L t) : b ≠ c := by
  obtain ⟨D, ⟨es, clock, hm, _⟩, _⟩ := h
  rintro rfl
  unfold Blk at hb
  rw [hm] at hb
  cases hb
theorem MapL.made (P : Program) (w : World) (e : TypeId) (z : Lit) : MapL P (w.alloc (.map #[] 0)) w.heap.size e z (fun _ => z) 0 :=
  ⟨.map [], World.ownsMap_made w P 3 _, isMap_empty, fun _ => rfl⟩
theorem MapL.update {P : Program} {w : World} {b : Nat} {e : TypeId} {z : Lit} {f : Int → Lit} {n : Nat} {t : TypeId} (h : MapL P w b e z f n) (h3 : P.underlying 3 = some (.int .i64)) (ht : P.underlying t = some (.map 3 e)) (hn : n < maxLen)
    {k : Int} (hk : -9223372036854775808 ≤ k ∧ k ≤ 9223372036854775807) {val : Value} {d : Lit} (hv : plainElem (H := Unit) P e val = some (.lit d, [])) :
    ∃ w', (Instr.mapUpdate t (.map (some b)) (.int .i64 k) val).run P w = .ok () w' ∧ MapL P w' b e z (fun j => if j = k then d else f j) (n + 1) ∧ Kept (fun j => j = b) w w' := by
  obtain ⟨D, h1, hD, hf⟩ := h
  obtain ⟨w', hr, h2, hg⟩ := h1.update (int_keyed h3) ht hn (keyOf_int_mk h3 (WalkArith.wf_i64 hk)) hv
  refine ⟨w', hr, ⟨_, h2, hD.put _ _, fun j => ?_⟩, (Kept.of_grown hg).mono (fun i _ h => by cases h; rfl)⟩
  by_cases hj : j = k
  · subst hj
    simp only [if_pos]
    exact atKey_put_same (k := .int .i64 j) hD trivial _ _
  · simp only [if_neg hj]
    rw [atKey_put_other (by intro h; cases h; exact hj rfl), hf]
theorem MapL.look {P : Program} {w : World} {b : Nat} {e : TypeId} {z : Lit} {f : Int → Lit} {n : Nat} {t : TypeId} (h : MapL P w b e z f n) (h3 : P.underlying 3 = some (.int .i64)) (ht : P.underlying t = some (.map 3 e)) {zv : Value} (hz : (zeroValue e).run P w = .ok zv w) (hzd : plainElem (H := Unit) P e zv = some (.lit z, []))
    {k : Int} (hk : -9223372036854775808 ≤ k ∧ k ≤ 9223372036854775807) : ∃ v ps, (Instr.lookup t (.map (some b)) (.int .i64 k) false).run P w = .ok v w ∧ plainElem (H := Unit) P e v = some (.lit (f k), ps) := by
  obtain ⟨D, h1, hD, hf⟩ := h
  obtain ⟨v, ps, hr, hv⟩ := h1.lookup (int_keyed h3) ht hz hzd (keyOf_int_mk h3 (WalkArith.wf_i64 hk))
  rw [hf k] at hv
  exact ⟨v, ps, hr, hv⟩
theorem MapL.lookI {P : Program} {w : World} {b : Nat} {f : Int → Lit} {n : Nat} {t : TypeId} (h : MapL P w b 3 (.int .i64 0) f n) (h3 : P.underlying 3 = some (.int .i64)) (ht : P.underlying t = some (.map 3 3)) (hz : (zeroValue 3).run P w = .ok (.int .i64 0) w)
    {k c : Int} (hk : -9223372036854775808 ≤ k ∧ k ≤ 9223372036854775807) (hc : f k = .int .i64 c) : (Instr.lookup t (.map (some b)) (.int .i64 k) false).run P w = .ok (.int .i64 c) w := by
  obtain ⟨v, ps, hr, hv⟩ := h.look h3 ht hz (plainElem_int h3 (by decide)) hk
  obtain ⟨a, rfl, ha, _⟩ := plainElem_int_inv h3 hv
  rw [hc] at ha
  cases ha
  exact hr
theorem plainElem_bool_inv {P : Program} {e : TypeId} (he : P.underlying e = some .bool) {v : Value} {z : DataW Unit × List MemPlace} (h : plainElem P e v = some z) : ∃ x, v = .bool x ∧ z = (.lit (.bool x), []) := by
  unfold plainElem at h
  rw [he] at h
  cases v <;> simp at h
  exact ⟨_, rfl, h.symm⟩
theorem MapL.lookB {P : Program} {w : World} {b : Nat} {f : Int → Lit} {n : Nat} {t : TypeId} (h : MapL P w b 4 (.bool false) f n) (h3 : P.underlying 3 = some (.int .i64)) (h4 : P.underlying 4 = some .bool) (ht : P.underlying t = some (.map 3 4)) (hz : (zeroValue 4).run P w = .ok (.bool false) w)
    {k : Int} {c : Bool} (hk : -9223372036854775808 ≤ k ∧ k ≤ 9223372036854775807) (hc : f k = .bool c) : (Instr.lookup t (.map (some b)) (.int .i64 k) false).run P w = .ok (.bool c) w := by
  obtain ⟨v, ps, hr, hv⟩ := h.look h3 ht hz (plainElem_bool h4 false) hk
  obtain ⟨a, rfl, ha⟩ := plainElem_bool_inv h4 hv
  rw [hc] at ha
  simp at ha
  rw [ha.1]
  exact hr
section
variable {P : Program} {ops : Array Oper} {Q : Exit → Act → World → Prop} {a : Act} {w : World} {rest : List Oper} {dst : Option Tmp} {ty : TypeId} {pos : String} {aft : Array Edge}
theorem aw_mapSet {m x v : Operand} {t e : TypeId} {b n : Nat} {z d : Lit} {f : Int → Lit} {k : Int} {val : Value} (h3 : P.underlying 3 = some (.int .i64)) (ht : P.underlying t = some (.map 3 e)) (hm : a.eval m = .map (some b)) (hx : a.eval x = .int .i64 k) (hv : a.eval v = val)
    (hM : MapL P w b e z f n) (hn : n < maxLen) (hk : -9223372036854775808 ≤ k ∧ k ≤ 9223372036854775807) (hd : plainElem (H := Unit) P e val = some (.lit d, []))
    (h : ∀ w', MapL P w' b e z (fun j => if j = k then d else f j) (n + 1) → Kept (fun j => j = b) w w' → wpList P ops Q rest (a.put dst undef) w') :
    wpList P ops Q (⟨dst, .mapUpdate t m x v, ty, pos, aft, none⟩ :: rest) a w := by
  obtain ⟨w', hr, h1, h2⟩ := hM.update h3 ht hn hk hd
  refine wpList_plain rfl fun K' hK' => ?_
  unfold Oper.wp
  simp [execOp, hm, hx, hv, hr, Result.andThen]
  exact hK' _ _ (h w' h1 h2)
theorem aw_makeMap {t : TypeId} (h : ∀ w', w' = w.alloc (.map #[] 0) → wpList P ops Q rest (a.put dst (.map (some w.heap.size))) w') : wpList P ops Q (⟨dst, .makeMap t none, ty, pos, aft, none⟩ :: rest) a w := by
  refine wpList_plain rfl fun K' hK' => ?_
  unfold Oper.wp
  have := run_makeMap (P := P) t w
  simp [execOp, this, Result.andThen]
  exact hK' _ _ (h _ rfl)
end
end Go.Proofs.Ytclfklcboigifaa
