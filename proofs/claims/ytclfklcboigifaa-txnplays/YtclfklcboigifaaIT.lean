/-
  Types of this seat; slices and writes in memory.
-/
import Derived.Test.YtclfklcboigifaaOwn
import Derived.Test.YtclfklcboigifaaRMath
import Derived.Test.YtclfklcboigifaaOMath
import Derived.Test.YtclfklcboigifaaRow
import Derived.Test.YtclfklcboigifaaRegIn
import Derived.DeepKeys
namespace Go.Proofs.Ytclfklcboigifaa
open Go.RowKit Go.Shelf
set_option linter.unusedSimpArgs false
set_option linter.unusedVariables false
set_option maxRecDepth 100000

theorem Try.info3 : (Try.prog.info? 3).map (fun i => (i.zero, i.size, i.bytes)) = some (some (.int .i64 0), 1, 8) := by kernel_rfl
theorem Try.info40 : (Try.prog.info? 40).map (fun i => (i.zero, i.size, i.bytes)) = some (some (.slice none 0 0), 1, 24) := by kernel_rfl
theorem Try.info38 : (Try.prog.info? 38).map (fun i => (i.zero, i.size, i.bytes)) = some (some (.slice none 0 0), 1, 24) := by kernel_rfl
theorem Try.info33 : (Try.prog.info? 33).map (fun i => (i.zero, i.size, i.bytes)) = some (some (.slice none 0 0), 1, 24) := by kernel_rfl
theorem Try.info63 : (Try.prog.info? 63).map (fun i => (i.zero, i.size, i.bytes)) = some (some (.agg #[.int .i64 0, .slice none 0 0]), 2, 32) := by kernel_rfl
theorem Try.agg63 : aggSize Try.prog 63 2 := by
  obtain ⟨i0, hi, _, hs, _⟩ := info_parts Try.info63
  exact ⟨⟨i0, hi, hs⟩, _, Try.underlying63, .inr ⟨_, rfl⟩⟩
/-- A slice: where it lies, how long it is, how much room it has. -/
structure Sl where
  a : Option Addr
  n : Nat
  c : Nat
abbrev Sl.v (s : Sl) : Value := .slice s.a s.n s.c
abbrev ekB (k : Int) : Value := .int .i64 k
abbrev evB (v : Sl) : Value := .slice v.a v.n v.c
abbrev EntB := Int × Sl
theorem ownsRow_slice3 {w : World} {e : TypeId} {sz n : Nat} {v : Value} {xs : List Value} (h : w.ownsRow 0 e sz v n xs) : ∃ ao m c, v = .slice ao m c := by
  obtain ⟨ao, c, h⟩ := ownsRow_slice h
  exact ⟨ao, n, c, h⟩
theorem stop_app2 {P : Program} {ops : Array Oper} {Q : Exit → Act → World → Prop} {a : Act} {w : World} {rest : List Oper} {dst : Option Tmp} {ty : TypeId} {pos : String} {aft : Array Edge} {x y : Operand} (t u : TypeId) (h : Hid (wpList P ops Q (⟨dst, .call { callee := .builtin .append, args := #[x, y], argTypes := #[t, u] }, ty, pos, aft, none⟩ :: rest) a w)) : wpList P ops Q (⟨dst, .call { callee := .builtin .append, args := #[x, y], argTypes := #[t, u] }, ty, pos, aft, none⟩ :: rest) a w := h.out
/-- v is a slice that holds the entries l. -/
def SrcEB (W : World) (v : Value) (l : List EntB) : Prop := ∃ ao cap, v = .slice ao l.length cap ∧ l.length ≤ cap ∧ (0 < l.length → ∃ g off, ao = some ⟨g, off, none⟩ ∧ Cells W g off (encE ekB evB l))
theorem ownsRow_cells {w : World} {e : TypeId} {sz n : Nat} {v : Value} {xs : List Value} (h : w.ownsRow 0 e sz v n xs) {k : Nat} (hk : v.ownBlock = some k) : IsCells w k := by
  rcases h.2 with ⟨rfl, _⟩ | ⟨g, cap, cur, rfl, _, hg, _⟩
  · simp [Value.ownBlock] at hk
  · simp [Value.ownBlock] at hk
    subst hk
    exact ⟨_, _, _, hg⟩
theorem Blk.isCells {w : World} {b : Nat} {L : List Value} {t : TypeId} (h : Blk w b L t) : IsCells w b := ⟨_, _, _, h⟩
/-- A write in memory. -/
structure Wv where
  blk : Int
  s : Sl
  B : List Nat
def Wv.ent (x : Wv) : EntB := (x.blk, x.s)
def Wv.wr (x : Wv) : Wr := ⟨x.blk, x.B⟩
/-- v is a slice that holds the writes l. -/
def WsAt (w : World) (v : Value) (l : List Wv) : Prop := SrcEB w v (l.map Wv.ent) ∧ (∀ x ∈ l, Src w x.s.v x.B) ∧ l.length ≤ 9223372036854775807
theorem WsAt.nil (w : World) : WsAt w (.slice none 0 0) [] := ⟨⟨none, 0, rfl, by simp, fun h => absurd h (by simp)⟩, by simp, by simp⟩
theorem WsAt.kept {w w' : World} {v : Value} {l : List Wv} (h : WsAt w v l) (hk : Kept (fun _ => False) w w') : WsAt w' v l := by
  obtain ⟨⟨ao, cap, h1, h2, h3⟩, h4, h5⟩ := h
  refine ⟨⟨ao, cap, h1, h2, fun h0 => ?_⟩, fun x hx => (h4 x hx).kept hk, h5⟩
  obtain ⟨g, off, e, hc⟩ := h3 h0
  exact ⟨g, off, e, hk.cells hc (fun h => h)⟩
theorem WsAt.slice {w : World} {v : Value} {l : List Wv} (h : WsAt w v l) : ∃ ao cap, v = .slice ao l.length cap := by
  obtain ⟨⟨ao, cap, h1, _⟩, _⟩ := h
  exact ⟨ao, cap, by rw [h1, List.length_map]⟩
theorem WsAt.len {w : World} {ao : Option Addr} {n c : Nat} {l : List Wv} (h : WsAt w (.slice ao n c) l) : n = l.length := by
  obtain ⟨ao', cap, e⟩ := h.slice
  cases e
  rfl
theorem WsAt.get {w : World} {ao : Option Addr} {n c : Nat} {l : List Wv} (h : WsAt w (.slice ao n c) l) {k : Nat} (hk : k < l.length) :
    ∃ g off, ao = some ⟨g, off, none⟩ ∧ w.cell? ⟨g, off + k * 2, none⟩ = some (.int .i64 l[k].blk) ∧ w.cell? ⟨g, off + k * 2 + 1, none⟩ = some (.slice l[k].s.a l[k].s.n l[k].s.c) ∧ Src w l[k].s.v l[k].B ∧ l[k].s.n = l[k].B.length := by
  obtain ⟨⟨ao', cap, h1, h2, h3⟩, h4, h5⟩ := h
  cases h1
  obtain ⟨g, off, rfl, hc⟩ := h3 (by rw [List.length_map]; omega)
  have hk' : k < (l.map Wv.ent).length := by rw [List.length_map]; exact hk
  have hs := h4 l[k] (List.getElem_mem hk)
  have hn : l[k].s.n = l[k].B.length := by
    obtain ⟨bo, c, e, _⟩ := hs
    simp only [Sl.v, Value.slice.injEq] at e
    exact e.2.1
  have a := hc _ _ (encE_key (ek := ekB) (ev := evB) (l.map Wv.ent) k hk')
  have b := hc _ _ (encE_val (ek := ekB) (ev := evB) (l.map Wv.ent) k hk')
  rw [List.getElem_map] at a b
  exact ⟨g, off, rfl, a, b, hs, hn⟩
end Go.Proofs.Ytclfklcboigifaa
