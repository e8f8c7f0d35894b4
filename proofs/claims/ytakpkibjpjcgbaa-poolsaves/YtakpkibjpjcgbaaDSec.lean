/-
  A device's sectors as a list of lists of numbers; what writing, flushing and a crash make of them.
-/
import Derived.Test.YtakpkibjpjcgbaaDWr
import Derived.Test.YtakpkibjpjcgbaaFMath
namespace Go.Proofs.Ytakpkibjpjcgbaa
open Go.RowKit Go.Shelf
set_option linter.unusedSimpArgs false
set_option linter.unusedVariables false
set_option maxRecDepth 100000

theorem flat_drop : ∀ (L : List (List Nat)) (p : Nat), (∀ x ∈ L, x.length = 64) → L.flatten.drop (64 * p) = (L.drop p).flatten
  | L, 0, _ => by simp
  | [], p + 1, _ => by simp
  | x :: L, p + 1, h => by
    have hx := h x (by simp)
    rw [List.flatten_cons, List.drop_append, hx, List.drop_eq_nil_of_le (by omega), List.nil_append, show 64 * (p + 1) - 64 = 64 * p by omega, flat_drop L p (fun y hy => h y (by simp [hy])), List.drop_succ_cons]
theorem flat_take : ∀ (L : List (List Nat)) (p : Nat), (∀ x ∈ L, x.length = 64) → L.flatten.take (64 * p) = (L.take p).flatten
  | L, 0, _ => by simp
  | [], p + 1, _ => by simp
  | x :: L, p + 1, h => by
    have hx := h x (by simp)
    rw [List.flatten_cons, List.take_append, hx, List.take_of_length_le (by omega), show 64 * (p + 1) - 64 = 64 * p by omega, flat_take L p (fun y hy => h y (by simp [hy])), List.take_succ_cons, List.flatten_cons]
theorem put_flat {L : List (List Nat)} {a : Nat} {A : List Nat} (h : ∀ x ∈ L, x.length = 64) (ha : a < L.length) (hA : A.length = 64) : put (BV L.flatten) (64 * a) (BV A) = BV (L.set a A).flatten := by
  unfold put
  rw [← BV_take, BV_length, hA, show 64 * a + 64 = 64 * (a + 1) by omega, ← BV_drop, flat_take L a h, flat_drop L (a + 1) h, ← BV_append, ← BV_append]
  congr 1
  rw [List.set_eq_take_append_cons_drop, if_pos ha, List.flatten_append, List.flatten_cons, List.append_assoc]
theorem part_flat {L : List (List Nat)} {p : Nat} (h : ∀ x ∈ L, x.length = 64) {A B : List Nat} (hA : L[p]? = some A) (hB : L[p + 1]? = some B) : D.part (BV L.flatten) p 2 = BV (A ++ B) := by
  obtain ⟨h1, e1⟩ := List.getElem?_eq_some_iff.1 hA
  obtain ⟨h2, e2⟩ := List.getElem?_eq_some_iff.1 hB
  unfold D.part
  rw [← BV_drop, flat_drop L p h, List.drop_eq_getElem_cons h1, List.drop_eq_getElem_cons h2, e1, e2]
  rw [List.flatten_cons, List.flatten_cons, ← BV_take]
  have lA := h A (e1 ▸ List.getElem_mem _)
  have lB := h B (e2 ▸ List.getElem_mem _)
  rw [← List.append_assoc, List.take_left' (by rw [List.length_append, lA, lB])]
theorem new_lit (n : Nat) : D.DS.new n = ⟨BV (List.replicate n (List.replicate 64 0)).flatten, [], 0, -1, false⟩ := by
  have : (List.replicate n (List.replicate 64 0)).flatten = List.replicate (n * 64) 0 := by
    rw [List.flatten_replicate_replicate]
  unfold D.DS.new
  rw [this]
  simp [BV]
theorem wErr_lit (st : List Value) (ws : List (Nat × List Value)) (c : Nat) (l : Int) : wErr ⟨st, ws, c, l, false⟩ = if l = 0 then 10 else 0 := by simp [wErr]
theorem wDev_zero (st : List Value) (ws : List (Nat × List Value)) (c a : Nat) (A : List Nat) : wDev ⟨st, ws, c, 0, false⟩ a 1 A = ⟨st, ws, c, 0, true⟩ := by simp [wDev, D.DS.spent]
theorem wDev_lit (st : List Value) (ws : List (Nat × List Value)) (c a : Nat) (l : Int) (hl : l ≠ 0) (A : List Nat) (hA : A.length = 64) : wDev ⟨st, ws, c, l, false⟩ a 1 A = ⟨st, ws ++ [(a, BV A)], c + 1, if 0 < l then l - 1 else l, false⟩ := by
  have e : D.secs a (BV A) 1 = [(a, BV A)] := by
    simp only [D.secs, List.range_one, List.map_cons, List.map_nil, Nat.add_zero, D.sec, Nat.mul_zero, List.drop_zero]
    rw [List.take_of_length_le (by rw [BV_length, hA]; exact Nat.le_refl _)]
  simp [wDev, hl, D.DS.written, D.DS.spent, e]
theorem view_lit0 (st : List Value) (c : Nat) (l : Int) (o : Bool) : (⟨st, [], c, l, o⟩ : D.DS).view = st := rfl
theorem laid1 (kf : Nat → Bool) (a : Nat) (M st : List Value) : D.laidTo kf [(a, M)] st 1 = if kf 0 then put st (64 * a) M else st := by
  rw [D.laidTo_succ kf _ st 0 (a, M) rfl, D.laidTo_zero]
theorem errF_lit (st : List Value) (ws : List (Nat × List Value)) (c : Nat) (l : Int) : (⟨st, ws, c, l, false⟩ : D.DS).errF = if l = 0 then 10 else 0 := by simp [D.DS.errF, D.DS.errS]
theorem flushed_zero (st : List Value) (ws : List (Nat × List Value)) (c : Nat) : (⟨st, ws, c, 0, false⟩ : D.DS).flushed = ⟨st, ws, c, 0, true⟩ := by simp [D.DS.flushed, D.DS.spent]
theorem flushed_lit {L : List (List Nat)} {a : Nat} {A : List Nat} (h : ∀ x ∈ L, x.length = 64) (ha : a < L.length) (hA : A.length = 64) (c : Nat) (l : Int) (hl : l ≠ 0) :
    (⟨BV L.flatten, [(a, BV A)], c, l, false⟩ : D.DS).flushed = ⟨BV (L.set a A).flatten, [], c + 1, if 0 < l then l - 1 else l, false⟩ := by
  have hv : (⟨BV L.flatten, [(a, BV A)], c, l, false⟩ : D.DS).view = BV (L.set a A).flatten := by
    show D.laidTo (fun _ => true) [(a, BV A)] (BV L.flatten) 1 = _
    rw [laid1, if_pos rfl, put_flat h ha hA]
  simp [D.DS.flushed, D.DS.spent, hl, hv]
theorem crashed_lit0 (st : List Value) (c : Nat) (l : Int) (o : Bool) (ks : List Bool) : (⟨st, [], c, l, o⟩ : D.DS).crashed ks = ⟨st, [], c, -1, false⟩ := rfl
theorem crashed_lit1 {L : List (List Nat)} {a : Nat} {A : List Nat} (h : ∀ x ∈ L, x.length = 64) (ha : a < L.length) (hA : A.length = 64) (c : Nat) (l : Int) (o : Bool) (ks : List Bool) :
    (⟨BV L.flatten, [(a, BV A)], c, l, o⟩ : D.DS).crashed ks = ⟨BV (if ks.getD 0 false then L.set a A else L).flatten, [], c, -1, false⟩ := by
  have : D.laidTo (fun i => ks.getD i false) [(a, BV A)] (BV L.flatten) 1 = BV (if ks.getD 0 false then L.set a A else L).flatten := by
    rw [laid1]
    split
    · exact put_flat h ha hA
    · rfl
  show D.DS.mk _ _ _ _ _ = _
  rw [← this]
  rfl
end Go.Proofs.Ytakpkibjpjcgbaa
