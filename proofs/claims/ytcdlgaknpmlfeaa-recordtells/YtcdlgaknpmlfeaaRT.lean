/-
  Writes and records in memory.
-/
import Derived.Test.YtcdlgaknpmlfeaaIterB
import Derived.Test.YtcdlgaknpmlfeaaRMathB
namespace Go.Proofs.Ytcdlgaknpmlfeaa
open Go.RowKit Go.Shelf
set_option linter.unusedSimpArgs false
set_option linter.unusedVariables false

theorem Try.info4 : (Try.prog.info? 4).map (fun i => (i.zero, i.size, i.bytes)) = some (some (.bool false), 1, 1) := by kernel_rfl
theorem Try.info22 : (Try.prog.info? 22).map (fun i => (i.zero, i.size, i.bytes)) = some (some (.slice none 0 0), 1, 24) := by kernel_rfl
theorem Try.info25 : (Try.prog.info? 25).map (fun i => (i.zero, i.size, i.bytes)) = some (some (.slice none 0 0), 1, 24) := by kernel_rfl
theorem Try.info30 : (Try.prog.info? 30).map (fun i => (i.zero, i.size, i.bytes)) = some (some (.int .i64 0), 1, 8) := by kernel_rfl
theorem Try.info40 : (Try.prog.info? 40).map (fun i => (i.zero, i.size, i.bytes)) = some (some (.agg #[.int .i64 0, .slice none 0 0]), 2, 32) := by kernel_rfl
theorem Try.agg40 : aggSize Try.prog 40 2 := by
  obtain ⟨i0, hi, _, hs, _⟩ := info_parts Try.info40
  exact ⟨⟨i0, hi, hs⟩, _, Try.underlying40, .inr ⟨_, rfl⟩⟩
theorem Try.info24 : (Try.prog.info? 24).map (fun i => (i.zero, i.size, i.bytes)) = some (some (.agg #[.int .i64 0, .int .i64 0, .int .i64 0, .slice none 0 0]), 4, 48) := by kernel_rfl
theorem Try.agg24 : aggSize Try.prog 24 4 := by
  obtain ⟨i0, hi, _, hs, _⟩ := info_parts Try.info24
  exact ⟨⟨i0, hi, hs⟩, _, Try.underlying24, .inr ⟨_, rfl⟩⟩

/-- A write in memory. -/
structure Wv where
  blk : Int
  s : Sl
  B : List Nat
def Wv.ent (x : Wv) : EntB := (x.blk, x.s)
def Wv.wr (x : Wv) : Wr := ⟨x.blk, x.B⟩
/-- v is a slice that holds the writes l. -/
def WsAt (w : World) (v : Value) (l : List Wv) : Prop := SrcEB w v (l.map Wv.ent) ∧ (∀ x ∈ l, Src w x.s.v x.B) ∧ l.length ≤ 9223372036854775807
theorem WsAt.nil (w : World) : WsAt w (.slice none 0 0) [] := ⟨⟨none, 0, rfl, by simp, fun h => absurd h (by simp)⟩, by simp, by simp⟩
theorem WsAt.kept {w w' : World} {v : Value} {l : List Wv} (h : WsAt w v l) (hk : Kept (fun _ => False) w w') : WsAt w' v l := by
  obtain ⟨⟨ao, cap, h1, h2, h3⟩, h4, h5⟩ := h
  refine ⟨⟨ao, cap, h1, h2, fun h0 => ?_⟩, fun x hx => (h4 x hx).kept hk, h5⟩
  obtain ⟨g, off, e, hc⟩ := h3 h0
  exact ⟨g, off, e, hk.cells hc (fun h => h)⟩
theorem WsAt.slice {w : World} {v : Value} {l : List Wv} (h : WsAt w v l) : ∃ ao cap, v = .slice ao l.length cap := by
  obtain ⟨⟨ao, cap, h1, _⟩, _⟩ := h
  exact ⟨ao, cap, by rw [h1, List.length_map]⟩
theorem WsAt.len {w : World} {ao : Option Addr} {n c : Nat} {l : List Wv} (h : WsAt w (.slice ao n c) l) : n = l.length := by
  obtain ⟨ao', cap, e⟩ := h.slice
  cases e
  rfl
theorem WsAt.get {w : World} {ao : Option Addr} {n c : Nat} {l : List Wv} (h : WsAt w (.slice ao n c) l) {k : Nat} (hk : k < l.length) :
    ∃ g off, ao = some ⟨g, off, none⟩ ∧ w.cell? ⟨g, off + k * 2, none⟩ = some (.int .i64 l[k].blk) ∧ w.cell? ⟨g, off + k * 2 + 1, none⟩ = some (.slice l[k].s.a l[k].s.n l[k].s.c) ∧ Src w l[k].s.v l[k].B ∧ l[k].s.n = l[k].B.length := by
  obtain ⟨⟨ao', cap, h1, h2, h3⟩, h4, h5⟩ := h
  cases h1
  obtain ⟨g, off, rfl, hc⟩ := h3 (by rw [List.length_map]; omega)
  have hk' : k < (l.map Wv.ent).length := by rw [List.length_map]; exact hk
  have hs := h4 l[k] (List.getElem_mem hk)
  have hn : l[k].s.n = l[k].B.length := by
    obtain ⟨bo, c, e, _⟩ := hs
    simp only [Sl.v, Value.slice.injEq] at e
    exact e.2.1
  have a := hc _ _ (encE_key (ek := ekB) (ev := evB) (l.map Wv.ent) k hk')
  have b := hc _ _ (encE_val (ek := ekB) (ev := evB) (l.map Wv.ent) k hk')
  rw [List.getElem_map] at a b
  exact ⟨g, off, rfl, a, b, hs, hn⟩
/-- A record in memory. -/
structure Rv where
  kd : Int
  tl : Int
  nm : Int
  s : Sl
  ws : List Wv
def Rv.rc (x : Rv) : Rc := ⟨x.kd, x.tl, x.nm, x.ws.map Wv.wr⟩
abbrev rAgg (k t n : Int) (s : Sl) : Value := .agg #[.int .i64 k, .int .i64 t, .int .i64 n, .slice s.a s.n s.c]
abbrev Rv.agg (x : Rv) : Value := rAgg x.kd x.tl x.nm x.s
def RcAt (w : World) (x : Rv) : Prop := WsAt w x.s.v x.ws
theorem RcAt.kept {w w' : World} {x : Rv} (h : RcAt w x) (hk : Kept (fun _ => False) w w') : RcAt w' x := WsAt.kept h hk
end Go.Proofs.Ytcdlgaknpmlfeaa
