/-
  The types of the translation that the walks of a book of transactions meet, as closed facts; orders in memory.
-/
import Derived.Test.YtclfklcboigifaaIT
namespace Go.Proofs.Ytclfklcboigifaa
open Go.RowKit Go.Shelf
set_option linter.unusedSimpArgs false
set_option linter.unusedVariables false
set_option maxRecDepth 100000

theorem Try.info108 : (Try.prog.info? 108).map (fun i => (i.zero, i.size, i.bytes)) = some (some (.agg #[.int .i64 0, .slice none 0 0]), 2, 32) := by kernel_rfl
theorem Try.info106 : (Try.prog.info? 106).map (fun i => (i.zero, i.size, i.bytes)) = some (some (.agg #[.slice none 0 0]), 1, 24) := by kernel_rfl
theorem Try.agg108 : aggSize Try.prog 108 2 := by
  obtain ⟨i0, hi, _, hs, _⟩ := info_parts Try.info108
  exact ⟨⟨i0, hi, hs⟩, _, Try.underlying108, .inr ⟨_, rfl⟩⟩
theorem Try.agg106 : aggSize Try.prog 106 1 := by
  obtain ⟨i0, hi, _, hs, _⟩ := info_parts Try.info106
  exact ⟨⟨i0, hi, hs⟩, _, Try.underlying106, .inr ⟨_, rfl⟩⟩
/-- A slice of one's own that holds some entries. -/
def OwnB (w : World) (v : Value) (l : List EntB) : Prop := w.ownsRow 0 108 2 v l.length (encE ekB evB l)
/-- An order lies at p: its slice is v, its entries are l. -/
structure MapB (w : World) (p : Nat) (v : Value) (l : List EntB) : Prop where
  blk : Blk w p [v] 106
  own : OwnB w v l
  srt : Sorted ltI l
theorem MapB.kept {S : Nat → Prop} {w w' : World} {p : Nat} {v : Value} {l : List EntB} (h : MapB w p v l) (hk : Kept S w w') (hp : ¬ S p) (hn : ∀ k, v.ownBlock = some k → ¬ S k) : MapB w' p v l := ⟨hk.blk h.blk hp, ownsRow_kept h.own hk hn, h.srt⟩
theorem Try.info85 : (Try.prog.info? 85).map (fun i => (i.zero, i.size, i.bytes)) = some (some (.agg #[.int .i64 0, .slice none 0 0]), 2, 32) := by kernel_rfl
theorem Try.info87 : (Try.prog.info? 87).map (fun i => (i.zero, i.size, i.bytes)) = some (some (.agg #[.slice none 0 0]), 1, 24) := by kernel_rfl
theorem Try.agg85 : aggSize Try.prog 85 2 := by
  obtain ⟨i0, hi, _, hs, _⟩ := info_parts Try.info85
  exact ⟨⟨i0, hi, hs⟩, _, Try.underlying85, .inr ⟨_, rfl⟩⟩
theorem Try.agg87 : aggSize Try.prog 87 1 := by
  obtain ⟨i0, hi, _, hs, _⟩ := info_parts Try.info87
  exact ⟨⟨i0, hi, hs⟩, _, Try.underlying87, .inr ⟨_, rfl⟩⟩
/-- A slice of one's own that holds some entries. -/
def OwnW (w : World) (v : Value) (l : List EntB) : Prop := w.ownsRow 0 85 2 v l.length (encE ekB evB l)
/-- An order lies at p: its slice is v, its entries are l. -/
structure MapW (w : World) (p : Nat) (v : Value) (l : List EntB) : Prop where
  blk : Blk w p [v] 87
  own : OwnW w v l
  srt : Sorted ltI l
theorem MapW.kept {S : Nat → Prop} {w w' : World} {p : Nat} {v : Value} {l : List EntB} (h : MapW w p v l) (hk : Kept S w w') (hp : ¬ S p) (hn : ∀ k, v.ownBlock = some k → ¬ S k) : MapW w' p v l := ⟨hk.blk h.blk hp, ownsRow_kept h.own hk hn, h.srt⟩
/-- The blocks of an order. -/
def footM (p : Nat) (v : Value) (k : Nat) : Prop := k = p ∨ v.ownBlock = some k
theorem Try.info66 : (Try.prog.info? 66).map (fun i => (i.zero, i.size, i.bytes)) = some (some (.agg #[.int .i64 0, .int .i64 0, .pointer none]), 3, 24) := by kernel_rfl
theorem Try.agg66 : aggSize Try.prog 66 3 := by
  obtain ⟨i0, hi, _, hs, _⟩ := info_parts Try.info66
  exact ⟨⟨i0, hi, hs⟩, _, Try.underlying66, .inr ⟨_, rfl⟩⟩
theorem Try.info78 : (Try.prog.info? 78).map (fun i => (i.zero, i.size, i.bytes)) = some (some (.slice none 0 0), 1, 24) := by kernel_rfl
end Go.Proofs.Ytclfklcboigifaa
