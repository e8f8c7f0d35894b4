/-
  The types of the translation that the walks of package order (int, []byte) meet, as closed facts.
-/
import Derived.Test.YtcdlgaknpmlfeaaPRefS
import Derived.Test.YtcdlgaknpmlfeaaOMath
namespace Go.Proofs.Ytcdlgaknpmlfeaa
open Go.RowKit Go.Shelf
set_option linter.unusedSimpArgs false
set_option linter.unusedVariables false

/-- A slice: where it lies, how long it is, how much room it has. -/
structure Sl where
  a : Option Addr
  n : Nat
  c : Nat
abbrev Sl.v (s : Sl) : Value := .slice s.a s.n s.c
theorem Try.info84 : (Try.prog.info? 84).map (fun i => (i.zero, i.size, i.bytes)) = some (some (.agg #[.int .i64 0, .slice none 0 0]), 2, 32) := by kernel_rfl
theorem Try.info81 : (Try.prog.info? 81).map (fun i => (i.zero, i.size, i.bytes)) = some (some (.agg #[.slice none 0 0]), 1, 24) := by kernel_rfl
theorem Try.info3 : (Try.prog.info? 3).map (fun i => (i.zero, i.size, i.bytes)) = some (some (.int .i64 0), 1, 8) := by kernel_rfl
theorem Try.agg84 : aggSize Try.prog 84 2 := by
  obtain ⟨i0, hi, _, hs, _⟩ := info_parts Try.info84
  exact ⟨⟨i0, hi, hs⟩, _, Try.underlying84, .inr ⟨_, rfl⟩⟩
theorem Try.agg81 : aggSize Try.prog 81 1 := by
  obtain ⟨i0, hi, _, hs, _⟩ := info_parts Try.info81
  exact ⟨⟨i0, hi, hs⟩, _, Try.underlying81, .inr ⟨_, rfl⟩⟩

abbrev ekB (k : Int) : Value := .int .i64 k
abbrev evB (v : Sl) : Value := .slice v.a v.n v.c
abbrev EntB := Int × Sl
/-- A slice of one's own that holds some entries. -/
def OwnB (w : World) (v : Value) (l : List EntB) : Prop := w.ownsRow 0 84 2 v l.length (encE ekB evB l)
/-- An order lies at p: its slice is v, its entries are l. -/
structure MapB (w : World) (p : Nat) (v : Value) (l : List EntB) : Prop where
  blk : Blk w p [v] 81
  own : OwnB w v l
  srt : Sorted ltI l
theorem MapB.kept {S : Nat → Prop} {w w' : World} {p : Nat} {v : Value} {l : List EntB} (h : MapB w p v l) (hk : Kept S w w') (hp : ¬ S p) (hn : ∀ k, v.ownBlock = some k → ¬ S k) : MapB w' p v l := ⟨hk.blk h.blk hp, ownsRow_kept h.own hk hn, h.srt⟩
/-- The blocks of an order. -/
def footM (p : Nat) (v : Value) (k : Nat) : Prop := k = p ∨ v.ownBlock = some k
theorem ownsRow_slice3 {w : World} {e : TypeId} {sz n : Nat} {v : Value} {xs : List Value} (h : w.ownsRow 0 e sz v n xs) : ∃ ao m c, v = .slice ao m c := by
  obtain ⟨ao, c, h⟩ := ownsRow_slice h
  exact ⟨ao, n, c, h⟩
end Go.Proofs.Ytcdlgaknpmlfeaa
