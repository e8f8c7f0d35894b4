/-
  Writes of one's own: a slice of them that is appended to.
-/
import Derived.Test.YtclfklcboigifaaIterB
namespace Go.Proofs.Ytclfklcboigifaa
open Go.RowKit Go.Shelf
set_option linter.unusedSimpArgs false
set_option linter.unusedVariables false
set_option maxRecDepth 100000

def WsOwn (w : World) (v : Value) (l : List Wv) : Prop := w.ownsRow 0 63 2 v l.length (encE ekB evB (l.map Wv.ent)) ∧ ∀ x ∈ l, Own w 0 x.s.v x.B
theorem own_apart {w : World} {v u : Value} {n m : Nat} {xs ys : List Value} {e t : TypeId} {a b : Nat} (h : w.ownsRow 0 e a v n xs) (k : w.ownsRow 0 t b u m ys) (hne : e ≠ t) : ∀ j, v.ownBlock = some j → u.ownBlock ≠ some j := by
  intro j hj hu
  rcases h.2 with ⟨rfl, _⟩ | ⟨g, cap, cur, rfl, _, hg, _⟩
  · simp [Value.ownBlock] at hj
  · simp [Value.ownBlock] at hj
    subst hj
    rcases k.2 with ⟨rfl, _⟩ | ⟨g', cap', cur', rfl, _, hg', _⟩
    · simp [Value.ownBlock] at hu
    · simp [Value.ownBlock] at hu
      subst hu
      rw [hg] at hg'
      simp at hg'
      exact hne hg'.2
theorem WsOwn.nil (w : World) : WsOwn w (.slice none 0 0) [] := ⟨World.ownsRow_nil _ _ _ _, by simp⟩
theorem WsOwn.kept {S : Nat → Prop} {w w' : World} {v : Value} {l : List Wv} (h : WsOwn w v l) (hk : Kept S w w') (hv : ∀ k, v.ownBlock = some k → ¬ S k) (hx : ∀ x ∈ l, ∀ k, x.s.v.ownBlock = some k → ¬ S k) : WsOwn w' v l :=
  ⟨ownsRow_kept h.1 hk hv, fun x hxl => (h.2 x hxl).kept hk (hx x hxl)⟩
theorem WsOwn.keptF {w w' : World} {v : Value} {l : List Wv} (h : WsOwn w v l) (hk : Kept (fun _ => False) w w') : WsOwn w' v l := h.kept hk (fun _ _ h => h) (fun _ _ _ _ h => h)
/-- A block of another type is changed. -/
theorem WsOwn.keptB {w w' : World} {v : Value} {l : List Wv} {b : Nat} {L : List Value} {t : TypeId} (h : WsOwn w v l) (hb : Blk w b L t) (h40 : t ≠ 63) (h5 : t ≠ 5) (hk : Kept (fun k => k = b) w w') : WsOwn w' v l :=
  h.kept hk (fun k hk' e => ownsRow_blk_ne h.1 hb h40 (e ▸ hk')) (fun x hx k hk' e => (h.2 x hx).blk_ne hb h5 (e ▸ hk'))
theorem WsOwn.at {w : World} {v : Value} {l : List Wv} (h : WsOwn w v l) (hl : l.length ≤ 9223372036854775807) : WsAt w v l := by
  refine ⟨?_, fun x hx => (h.2 x hx).src, hl⟩
  have h1 := h.1
  rcases ownsRow_blk h1 with ⟨rfl, h0, _⟩ | ⟨g, cap, C, rfl, hb, hnc, hcm, hC⟩
  · exact ⟨none, 0, by rw [List.length_map, h0], by rw [List.length_map]; omega, fun h => by rw [List.length_map] at h; omega⟩
  · refine ⟨_, cap, by rw [List.length_map], by rw [List.length_map]; exact hnc, fun _ => ⟨g, 0, rfl, ?_⟩⟩
    have h := hb.cells 0 (l.length * 2)
    rw [List.drop_zero, List.take_append_of_le_length (by rw [encE_length, List.length_map]; omega), List.take_of_length_le (by rw [encE_length, List.length_map]; omega)] at h
    exact h
theorem WsOwn.sl {w : World} {v : Value} {l : List Wv} (h : WsOwn w v l) : ∃ s : Sl, v = s.v := by
  obtain ⟨ao, c, e⟩ := ownsRow_slice h.1
  exact ⟨⟨ao, l.length, c⟩, e⟩
/-- One more write is appended. -/
theorem WsOwn.snoc {w : World} {v : Value} {l : List Wv} (h : WsOwn w v l) (x : Wv) (ho : Own w 0 x.s.v x.B) {g : Nat} (hg : Blk w g [.int .i64 x.blk, .slice x.s.a x.s.n x.s.c] 63) (hl : l.length ≤ 1000000) (ty : TypeId) :
    ∃ v' w', (Builtin.append_ #[33, 33] ty #[v, .slice (some ⟨g, 0, none⟩) 1 1]).run Try.prog w = .ok v' w' ∧ WsOwn w' v' (l ++ [x]) ∧ Kept (fun k => v.ownBlock = some k) w w' ∧ (v'.ownBlock = v.ownBlock ∨ v'.ownBlock = some w.heap.size) := by
  obtain ⟨i0, hi, hz, hs, hb⟩ := info_parts Try.info63
  obtain ⟨v', w', hr, h2, h3, _, h5⟩ := run_append_own_at (P := Try.prog) w 0 33 ty 63 i0 _ 2 32 Try.underlying33 hi hz hs hb rfl (by decide) v l.length _ h.1 ⟨g, 0, none⟩ 1 1 [.int .i64 x.blk, .slice x.s.a x.s.n x.s.c] rfl (fun j u hj => by rw [addr_add, hg.cell, Nat.zero_add]; exact hj) (by simp [Value.oneCell']) (by unfold maxLen; omega) (by omega) (Nat.zero_le _)
  have hk := Kept.of_grown h3
  refine ⟨v', w', hr, ⟨?_, ?_⟩, hk, h5⟩
  · have e : encE ekB evB ((l ++ [x]).map Wv.ent) = encE ekB evB (l.map Wv.ent) ++ [.int .i64 x.blk, .slice x.s.a x.s.n x.s.c] := by
      rw [List.map_append, encE_append]; rfl
    rw [e, List.length_append]
    exact h2
  · intro y hy
    rcases List.mem_append.1 hy with hy | hy
    · exact (h.2 y hy).kept hk (fun k hk' e => own_apart h.1 (h.2 y hy).1 (by decide) k e hk')
    · simp at hy
      subst hy
      exact ho.kept hk (fun k hk' e => own_apart h.1 ho.1 (by decide) k e hk')
end Go.Proofs.Ytclfklcboigifaa
