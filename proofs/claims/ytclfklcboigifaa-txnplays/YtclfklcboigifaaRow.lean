/-
  Slices of one's own, and slices that are read, of elements of one cell each; append. Nothing of a program's dump is used here.
-/
import Derived.Test.YtclfklcboigifaaFl
import Derived.Maps.AppendAt
import Derived.Laws.OwnMore
import Derived.Lib.SliceRun
namespace Go.Proofs.Ytclfklcboigifaa
open Go.RowKit Go.Shelf
set_option linter.unusedSimpArgs false
set_option linter.unusedVariables false
set_option maxRecDepth 100000

theorem ownsRow_kept {S : Nat → Prop} {w w' : World} {e : TypeId} {sz n : Nat} {v : Value} {xs : List Value} (h : w.ownsRow 0 e sz v n xs) (hk : Kept S w w') (hn : ∀ k, v.ownBlock = some k → ¬ S k) : w'.ownsRow 0 e sz v n xs := by
  obtain ⟨h1, h2⟩ := h
  refine ⟨h1, ?_⟩
  rcases h2 with h2 | ⟨g, cap, cur, rfl, hb, hg, hr⟩
  · exact .inl h2
  · exact .inr ⟨g, cap, cur, rfl, hb, (hk.block g (Array.getElem?_eq_some_iff.1 hg).1 (hn g rfl)).trans hg, hr⟩
theorem ownsRow_blk_ne {w : World} {e t : TypeId} {sz n b : Nat} {v : Value} {xs L : List Value} (h : w.ownsRow 0 e sz v n xs) (hb : Blk w b L t) (ht : t ≠ e) : v.ownBlock ≠ some b := by
  intro he
  rcases h.2 with ⟨rfl, _⟩ | ⟨g, cap, cur, rfl, _, hg, _⟩
  · simp [Value.ownBlock] at he
  · simp [Value.ownBlock] at he
    subst he
    unfold Blk at hb
    rw [hg] at hb
    simp at hb
    exact ht hb.2.symm
theorem ownsRow_blk {w : World} {e : TypeId} {sz n : Nat} {v : Value} {xs : List Value} (h : w.ownsRow 0 e sz v n xs) : (v = .slice none 0 0 ∧ n = 0 ∧ xs = []) ∨ ∃ g cap C, v = .slice (some ⟨g, 0, none⟩) n cap ∧ Blk w g (xs ++ C) e ∧ n ≤ cap ∧ cap ≤ maxLen ∧ C.length = (cap - n) * sz := by
  have hl := h.1
  rcases h.2 with ⟨rfl, rfl⟩ | ⟨g, cap, cur, rfl, _, hg, hnc, hcm, hcs, htake⟩
  · exact .inl ⟨rfl, rfl, List.eq_nil_of_length_eq_zero (by omega)⟩
  · refine .inr ⟨g, cap, cur.toList.drop (n * sz), rfl, ?_, hnc, hcm, ?_⟩
    · have : xs ++ cur.toList.drop (n * sz) = cur.toList := by rw [← htake]; exact List.take_append_drop _ _
      rw [this]
      unfold Blk
      simpa using hg
    · rw [List.length_drop, Array.length_toList, hcs, Nat.sub_mul]
theorem ownsRow_of {w : World} {e : TypeId} {sz n g cap : Nat} {xs C : List Value} (hb : Blk w g (xs ++ C) e) (hl : xs.length = n * sz) (hnc : n ≤ cap) (hcm : cap ≤ maxLen) (hC : C.length = (cap - n) * sz) : w.ownsRow 0 e sz (.slice (some ⟨g, 0, none⟩) n cap) n xs := by
  refine ⟨hl, .inr ⟨g, cap, (xs ++ C).toArray, rfl, Nat.zero_le _, hb, hnc, hcm, ?_, ?_⟩⟩
  · simp [hl, hC, ← Nat.add_mul]
    rw [show n + (cap - n) = cap by omega]
  · simp [← hl]
theorem ownsRow_lt {w : World} {e : TypeId} {sz n : Nat} {v : Value} {xs : List Value} (h : w.ownsRow 0 e sz v n xs) : ∀ k, v.ownBlock = some k → k < w.heap.size := fun k hk => (h.lt k hk).2
theorem ret2 {a b : Value} {x y : Value} (h : a = x) (k : b = y) : Ending.returned (.tuple #[a, b]) = .returned (.tuple #[x, y]) := by rw [h, k]
theorem ownsRow_slice {w : World} {e : TypeId} {sz n : Nat} {v : Value} {xs : List Value} (h : w.ownsRow 0 e sz v n xs) : ∃ ao c, v = .slice ao n c := by
  rcases ownsRow_blk h with ⟨rfl, rfl, _⟩ | ⟨g, cap, C, rfl, _⟩
  · exact ⟨_, _, rfl⟩
  · exact ⟨_, _, rfl⟩
theorem r_app {P : Program} {ρ : Operand → Value} {w w' : World} {dst : Option Tmp} {ty t1 t2 : TypeId} {pos : String} {aft : Array Edge} {gd : Option (Nat × Bool)} {x y : Operand} {v u v' : Value} (hx : ρ x = v) (hy : ρ y = u) (hr : (Builtin.append_ #[t1, t2] ty #[v, u]).run P w = .ok v' w') :
    (execOp ρ ⟨dst, .call { callee := .builtin .append, args := #[x, y], argTypes := #[t1, t2] }, ty, pos, aft, gd⟩).run P w = .ok (.value v') w' := by
  simp [execOp, resolve, invoke, builtin, hx, hy, hr]
/-- v is a slice that holds the values vs. -/
def SrcV (W : World) (v : Value) (vs : List Value) : Prop := ∃ ao cap, v = .slice ao vs.length cap ∧ vs.length ≤ cap ∧ (0 < vs.length → ∃ g off, ao = some ⟨g, off, none⟩ ∧ Cells W g off vs) ∧ (ao = none → cap = 0)
/-- The block that a slice lies in. -/
def vX (v : Value) (k : Nat) : Prop := ∃ off n c, v = .slice (some ⟨k, off, none⟩) n c
theorem SrcV.kept {S : NSet} {W W' : World} {v : Value} {vs : List Value} (h : SrcV W v vs) (hk : Kept S W W') (hn : ∀ k, vX v k → ¬ S k) : SrcV W' v vs := by
  obtain ⟨ao, cap, rfl, h1, h2, h3⟩ := h
  refine ⟨ao, cap, rfl, h1, fun h => ?_, h3⟩
  obtain ⟨g, off, rfl, hc⟩ := h2 h
  exact ⟨g, off, rfl, hk.cells hc (hn g ⟨off, _, _, rfl⟩)⟩
theorem ownsRow_src {W : World} {e : TypeId} {v : Value} {n : Nat} {vs : List Value} (h : W.ownsRow 0 e 1 v n vs) : SrcV W v vs := by
  have hl := h.1
  rcases ownsRow_blk h with ⟨rfl, rfl, rfl⟩ | ⟨g, cap, C, rfl, hb, hnc, hcm, hC⟩
  · exact ⟨none, 0, rfl, by simp, fun h => by simp at h, fun _ => rfl⟩
  · obtain rfl : n = vs.length := by omega
    refine ⟨_, cap, rfl, hnc, fun _ => ⟨g, 0, rfl, ?_⟩, fun h => by cases h⟩
    have h := hb.cells 0 vs.length
    rw [List.drop_zero, List.take_append_of_le_length (by omega), List.take_of_length_le (by omega)] at h
    exact h
theorem own_vX {w : World} {e : TypeId} {sz n : Nat} {v : Value} {xs : List Value} (h : w.ownsRow 0 e sz v n xs) {k : Nat} (hk : vX v k) : v.ownBlock = some k := by
  obtain ⟨off, m, c, rfl⟩ := hk
  rcases h.2 with ⟨h, _⟩ | ⟨g, cap, cur, he, _⟩
  · cases h
  · cases he
    rfl
theorem append_row {P : Program} {w : World} {t ty e : TypeId} {i : TypeInfo} {z : Value} {bytes : Nat} (ht : P.underlying t = some (.slice e)) (hi : P.info? e = some i) (hz : i.zero = some z) (hs : i.size = 1) (hb : i.bytes = bytes) (hzc : z.cells.size = 1) (hby : bytes ≤ 1000)
    {v u : Value} {n : Nat} {xs vs : List Value} (ho : w.ownsRow 0 e 1 v n xs) (hu : SrcV w u vs) (h1 : ∀ u ∈ vs, u.oneCell' = true) (hl : n + vs.length ≤ 100000000) :
    ∃ v' w', (Builtin.append_ #[t, t] ty #[v, u]).run P w = .ok v' w' ∧ w'.ownsRow 0 e 1 v' (n + vs.length) (xs ++ vs) ∧ Kept (fun k => v.ownBlock = some k) w w' ∧ (v'.ownBlock = v.ownBlock ∨ v'.ownBlock = some w.heap.size) := by
  obtain ⟨ao, cap, rfl, hcap, hsrc, hnil⟩ := hu
  cases ao with
  | none =>
    obtain rfl : cap = 0 := hnil rfl
    obtain rfl : vs = [] := List.eq_nil_of_length_eq_zero (by omega)
    have h := run_append_owned_none (P := P) (w := w) 0 t ty e i 1 ht hi v n xs ho
    exact ⟨_, _, h, by simpa using ho, Kept.refl _ _, .inl rfl⟩
  | some a =>
    have hn : ∀ j u, vs[j]? = some u → w.cell? (a.add j) = some u := by
      intro j u hj
      by_cases h0 : 0 < vs.length
      · obtain ⟨sb, so, he, hc⟩ := hsrc h0
        cases he
        rw [addr_add]
        exact hc j u hj
      · obtain rfl : vs = [] := List.eq_nil_of_length_eq_zero (by omega)
        simp at hj
    obtain ⟨v', w', hr, h2, h3, _, h5⟩ := run_append_own_at (P := P) w 0 t ty e i _ 1 bytes ht hi hz hs hb hzc (by decide) v n xs ho a vs.length cap vs (by simp) hn h1 (by unfold maxLen; omega) (by
      have : (n + vs.length) * bytes ≤ 100000000 * 1000 := Nat.mul_le_mul hl hby
      omega) (Nat.zero_le _)
    exact ⟨v', w', hr, h2, Kept.of_grown h3, h5⟩
theorem r_bs0 {P : Program} {ρ : Operand → Value} {w : World} {dst : Option Tmp} {t ty e : TypeId} {pos : String} {aft : Array Edge} {gd : Option (Nat × Bool)} {i : TypeInfo} {z : Value} (ht : P.underlying t = some (.slice e)) (hi : P.info? e = some i) (hz : i.zero = some z) (hs : i.size = 1) :
    (execOp ρ ⟨dst, .buildSlice t 0 #[], ty, pos, aft, gd⟩).run P w = .ok (.value (.slice (some ⟨w.heap.size, 0, none⟩) 0 0)) (w.alloc (.cells #[] e)) :=
  run_bs1 ht hi hz hs [] rfl (by simp) (by simp) rfl
/-- It may be said to read more. -/
theorem SeqOk.widen {P : Program} {sv : Value} {α : Type} {E : EncR α} {xs : List α} {X X' C : NSet} {Post : Bool → List α → World → Prop} {W : World} (h : SeqOk P sv E xs X C Post W) (hX : ∀ k, X k → X' k) (hl : ∀ k, X' k → k < W.heap.size ∧ ¬ C k) : SeqOk P sv E xs X' C Post W :=
  ⟨h.fn, fun k hk => hk.elim (fun hk => (hl k hk).1) (fun hk => h.lt k (.inr hk)), fun k hk => (hl k hk).2, fun x v G W W' S h1 h2 h3 => h.enc x v G W W' S h1 h2 (fun k hk => ⟨(h3 k hk).1, fun hx => (h3 k hk).2 (hX k hx)⟩), h.post,
    fun hf W' S hk hS tv J Jx F0 h1 h2 h3 h4 h5 h6 => h.run hf W' S hk (fun k hs => ⟨fun hx => (hS k hs).1 (hX k hx), (hS k hs).2⟩) tv J Jx F0 h1 h2 h3 (fun k hf => ⟨fun hx => (h4 k hf).1 (hX k hx), (h4 k hf).2⟩) h5 h6⟩
/-- Values that stand for themselves. -/
def EncD {α : Type} (D : α → Value) : EncR α := fun x v G _ => v = D x ∧ ∀ k, ¬ G k
theorem EncD.ok {α : Type} (D : α → Value) (X : NSet) : EOk X (EncD D) := fun _ _ _ _ _ _ h _ _ => h
/-- The values vs stand for xs; G: the blocks that go with them. -/
def Els {α : Type} (E : EncR α) (xs : List α) (vs : List Value) (G : NSet) (W : World) : Prop := xs.length = vs.length ∧ ∀ (i : Nat) (x : α) (v : Value), xs[i]? = some x → vs[i]? = some v → ∃ Gi, E x v Gi W ∧ ∀ k, Gi k → G k
theorem Els.kept {α : Type} {E : EncR α} {X : NSet} (hE : EOk X E) {xs : List α} {vs : List Value} {G S : NSet} {W W' : World} (h : Els E xs vs G W) (hk : Kept S W W') (hS : ∀ k, S k → ¬ G k ∧ ¬ X k) : Els E xs vs G W' :=
  ⟨h.1, fun i x v h1 h2 => by
    obtain ⟨Gi, h3, h4⟩ := h.2 i x v h1 h2
    exact ⟨Gi, hE _ _ _ _ _ _ h3 hk (fun k h => ⟨fun h5 => (hS k h).1 (h4 k h5), (hS k h).2⟩), h4⟩⟩
theorem Els.snoc {α : Type} {E : EncR α} {xs : List α} {vs : List Value} {G Gn : NSet} {W : World} {x : α} {v : Value} (h : Els E xs vs G W) (hx : E x v Gn W) : Els E (xs ++ [x]) (vs ++ [v]) (fun k => G k ∨ Gn k) W := by
  refine ⟨by simp [h.1], fun i y u h1 h2 => ?_⟩
  by_cases hi : i < xs.length
  · rw [List.getElem?_append_left hi] at h1
    rw [List.getElem?_append_left (by rw [← h.1]; exact hi)] at h2
    obtain ⟨Gi, h3, h4⟩ := h.2 i y u h1 h2
    exact ⟨Gi, h3, fun k hk => .inl (h4 k hk)⟩
  · rw [List.getElem?_append_right (by omega)] at h1
    rw [List.getElem?_append_right (by rw [← h.1]; omega)] at h2
    rw [← h.1] at h2
    obtain ⟨rfl, rfl⟩ : y = x ∧ u = v := by
      cases hn : i - xs.length with
      | zero => rw [hn] at h1 h2; simp at h1 h2; exact ⟨h1.symm, h2.symm⟩
      | succ n => rw [hn] at h1; simp at h1
    exact ⟨Gn, hx, fun k hk => .inr hk⟩
theorem Els.encD {α : Type} {D : α → Value} {xs : List α} {vs : List Value} {G : NSet} {W : World} (h : Els (EncD D) xs vs G W) : vs = xs.map D := by
  apply List.ext_getElem
  · rw [List.length_map]; exact h.1.symm
  · intro i h1 h2
    have hx : i < xs.length := by simpa using h2
    obtain ⟨Gi, h3, _⟩ := h.2 i _ _ (List.getElem?_eq_getElem hx) (List.getElem?_eq_getElem h1)
    simpa using h3.1
end Go.Proofs.Ytclfklcboigifaa
