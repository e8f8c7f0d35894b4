/-
  Merge's first half: all writes are put in an order.
-/
import Derived.Test.YtclfklcboigifaaRMergeM
namespace Go.Proofs.Ytclfklcboigifaa
open Go.RowKit Go.Shelf
set_option linter.unusedSimpArgs false
set_option linter.unusedVariables false

/-- v is a slice that holds slices of writes. -/
def LsAt (w : World) (v : Value) (ls : List (Sl × List Wv)) : Prop := SrcV w v (ls.map fun x => x.1.v) ∧ (∀ x ∈ ls, WsAt w x.1.v x.2) ∧ ls.length ≤ 9223372036854775807
theorem LsAt.kept {w w' : World} {v : Value} {ls : List (Sl × List Wv)} (h : LsAt w v ls) (hk : Kept (fun _ => False) w w') : LsAt w' v ls :=
  ⟨h.1.kept hk (fun _ _ h => h), fun x hx => (h.2.1 x hx).kept hk, h.2.2⟩
theorem LsAt.slice {w : World} {v : Value} {ls : List (Sl × List Wv)} (h : LsAt w v ls) : ∃ ao cap, v = .slice ao ls.length cap := by
  obtain ⟨⟨ao, cap, e, _⟩, _⟩ := h
  exact ⟨ao, cap, by rw [e, List.length_map]⟩
theorem LsAt.get {w : World} {ao : Option Addr} {n c : Nat} {ls : List (Sl × List Wv)} (h : LsAt w (.slice ao n c) ls) {k : Nat} (hk : k < ls.length) :
    ∃ g off, ao = some ⟨g, off, none⟩ ∧ w.cell? ⟨g, off + k, none⟩ = some (.slice ls[k].1.a ls[k].1.n ls[k].1.c) ∧ WsAt w ls[k].1.v ls[k].2 := by
  obtain ⟨⟨ao', cap, e, h2, h3, _⟩, h4, h5⟩ := h
  cases e
  obtain ⟨g, off, rfl, hc⟩ := h3 (by rw [List.length_map]; omega)
  refine ⟨g, off, rfl, hc k _ (by rw [List.getElem?_map, List.getElem?_eq_getElem hk]; rfl), h4 _ (List.getElem_mem hk)⟩
/-- An order that is new since w, with some writes in it. -/
def OrdAt (w : World) (W : World) (p : Nat) (m : List Wv) : Prop := Kept (fun _ => False) w W ∧ ∃ v, MapB W p v (m.map Wv.ent) ∧ ∀ k, footM p v k → w.heap.size ≤ k
theorem OrdAt.kept {w W W' : World} {p : Nat} {m : List Wv} (h : OrdAt w W p m) (hk : Kept (fun _ => False) W W') : OrdAt w W' p m := by
  obtain ⟨h1, v, h2, h3⟩ := h
  exact ⟨h1.trans hk (fun _ _ h => h), v, h2.kept hk (fun h => h) (fun _ _ h => h), h3⟩
theorem oput (w W : World) (p : Nat) (m : List Wv) (h : OrdAt w W p m) (x : Wv) (hl : m.length ≤ 1000000) :
    Calls Try.prog 36 #[.pointer (some ⟨p, 0, none⟩), .int .i64 x.blk, .slice x.s.a x.s.n x.s.c] W fun e w' => (∃ b : Bool, e = .returned (.bool b)) ∧ OrdAt w w' p (insV m x) := by
  obtain ⟨h1, v, h2, h3⟩ := h
  refine (put_atB W p v (m.map Wv.ent) x.blk x.s h2 (by rw [List.length_map]; exact hl)).mono ?_
  rintro e w' ⟨rfl, v', hm, hk, hf⟩
  rw [← insV_ent] at hm
  refine ⟨⟨_, rfl⟩, h1.trans hk (fun i hi hs => by have := h3 i hs; omega), v', hm, fun k hk' => ?_⟩
  rcases hf k hk' with h | h
  · exact h3 k h
  · have := h1.size; omega
end Go.Proofs.Ytclfklcboigifaa
