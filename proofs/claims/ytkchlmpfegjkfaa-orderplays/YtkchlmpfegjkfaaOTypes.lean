/-
  The types of the translation that the walks of package order meet, as closed facts.
-/
import Derived.Test.YtkchlmpfegjkfaaRows
import Derived.Test.YtkchlmpfegjkfaaReg2
import Derived.Test.YtkchlmpfegjkfaaBlkIn
import Derived.Test.YtkchlmpfegjkfaaOMath
import Derived.Maps.AppendAt
import Derived.Shelf.Abstract
namespace Go.Proofs.Ytkchlmpfegjkfaa
open Go.RowKit Go.Shelf
set_option linter.unusedSimpArgs false
set_option linter.unusedVariables false

theorem Try.info62 : (Try.prog.info? 62).map (fun i => (i.zero, i.size, i.bytes)) = some (some (.agg #[.int .i64 0, .string ⟨#[]⟩]), 2, 24) := by kernel_rfl
theorem Try.info77 : (Try.prog.info? 77).map (fun i => (i.zero, i.size, i.bytes)) = some (some (.agg #[.string ⟨#[]⟩, .int .i64 0]), 2, 24) := by kernel_rfl
theorem Try.info59 : (Try.prog.info? 59).map (fun i => (i.zero, i.size, i.bytes)) = some (some (.agg #[.slice none 0 0]), 1, 24) := by kernel_rfl
theorem Try.info75 : (Try.prog.info? 75).map (fun i => (i.zero, i.size, i.bytes)) = some (some (.agg #[.slice none 0 0]), 1, 24) := by kernel_rfl
theorem Try.info3 : (Try.prog.info? 3).map (fun i => (i.zero, i.size, i.bytes)) = some (some (.int .i64 0), 1, 8) := by kernel_rfl
theorem Try.info9 : (Try.prog.info? 9).map (fun i => (i.zero, i.size, i.bytes)) = some (some (.string ⟨#[]⟩), 1, 16) := by kernel_rfl
theorem Try.info46 : (Try.prog.info? 46).map (fun i => (i.zero, i.size, i.bytes)) = some (some (.slice none 0 0), 1, 24) := by kernel_rfl
theorem Try.info49 : (Try.prog.info? 49).map (fun i => (i.zero, i.size, i.bytes)) = some (some (.slice none 0 0), 1, 24) := by kernel_rfl
theorem Try.agg62 : aggSize Try.prog 62 2 := by
  obtain ⟨i0, hi, _, hs, _⟩ := info_parts Try.info62
  exact ⟨⟨i0, hi, hs⟩, _, Try.underlying62, .inr ⟨_, rfl⟩⟩
theorem Try.agg77 : aggSize Try.prog 77 2 := by
  obtain ⟨i0, hi, _, hs, _⟩ := info_parts Try.info77
  exact ⟨⟨i0, hi, hs⟩, _, Try.underlying77, .inr ⟨_, rfl⟩⟩
theorem Try.agg59 : aggSize Try.prog 59 1 := by
  obtain ⟨i0, hi, _, hs, _⟩ := info_parts Try.info59
  exact ⟨⟨i0, hi, hs⟩, _, Try.underlying59, .inr ⟨_, rfl⟩⟩
theorem Try.agg75 : aggSize Try.prog 75 1 := by
  obtain ⟨i0, hi, _, hs, _⟩ := info_parts Try.info75
  exact ⟨⟨i0, hi, hs⟩, _, Try.underlying75, .inr ⟨_, rfl⟩⟩
theorem Try.mixed : Try.prog.follows .mixedOrders = true := by kernel_rfl

abbrev ekI (k : Int) : Value := .int .i64 k
abbrev evI (v : ByteArray) : Value := .string v
abbrev ekS (k : ByteArray) : Value := .string k
abbrev evS (v : Int) : Value := .int .i64 v
abbrev EntI := Int × ByteArray
abbrev EntS := ByteArray × Int

/-- A slice of one's own that holds some entries. -/
def OwnI (w : World) (v : Value) (l : List EntI) : Prop := w.ownsRow 0 62 2 v l.length (encE ekI evI l)
def OwnS (w : World) (v : Value) (l : List EntS) : Prop := w.ownsRow 0 77 2 v l.length (encE ekS evS l)

/-- An order lies at p: its slice is v, its entries are l. -/
structure MapI (w : World) (p : Nat) (v : Value) (l : List EntI) : Prop where
  blk : Blk w p [v] 59
  own : OwnI w v l
  srt : Sorted ltI l
structure MapS (w : World) (p : Nat) (v : Value) (l : List EntS) : Prop where
  blk : Blk w p [v] 75
  own : OwnS w v l
  srt : Sorted ltS l

theorem ownsRow_kept {S : Nat → Prop} {w w' : World} {e : TypeId} {sz n : Nat} {v : Value} {xs : List Value} (h : w.ownsRow 0 e sz v n xs) (hk : Kept S w w') (hn : ∀ k, v.ownBlock = some k → ¬ S k) : w'.ownsRow 0 e sz v n xs := by
  obtain ⟨h1, h2⟩ := h
  refine ⟨h1, ?_⟩
  rcases h2 with h2 | ⟨g, cap, cur, rfl, hb, hg, hr⟩
  · exact .inl h2
  · exact .inr ⟨g, cap, cur, rfl, hb, (hk.block g (Array.getElem?_eq_some_iff.1 hg).1 (hn g rfl)).trans hg, hr⟩
theorem ownsRow_blk_ne {w : World} {e t : TypeId} {sz n b : Nat} {v : Value} {xs L : List Value} (h : w.ownsRow 0 e sz v n xs) (hb : Blk w b L t) (ht : t ≠ e) : v.ownBlock ≠ some b := by
  intro he
  rcases h.2 with ⟨rfl, _⟩ | ⟨g, cap, cur, rfl, _, hg, _⟩
  · simp [Value.ownBlock] at he
  · simp [Value.ownBlock] at he
    subst he
    unfold Blk at hb
    rw [hg] at hb
    simp at hb
    exact ht hb.2.symm
theorem ownsRow_blk {w : World} {e : TypeId} {sz n : Nat} {v : Value} {xs : List Value} (h : w.ownsRow 0 e sz v n xs) : (v = .slice none 0 0 ∧ n = 0 ∧ xs = []) ∨ ∃ g cap C, v = .slice (some ⟨g, 0, none⟩) n cap ∧ Blk w g (xs ++ C) e ∧ n ≤ cap ∧ cap ≤ maxLen ∧ C.length = (cap - n) * sz := by
  have hl := h.1
  rcases h.2 with ⟨rfl, rfl⟩ | ⟨g, cap, cur, rfl, _, hg, hnc, hcm, hcs, htake⟩
  · exact .inl ⟨rfl, rfl, List.eq_nil_of_length_eq_zero (by omega)⟩
  · refine .inr ⟨g, cap, cur.toList.drop (n * sz), rfl, ?_, hnc, hcm, ?_⟩
    · have : xs ++ cur.toList.drop (n * sz) = cur.toList := by rw [← htake]; exact List.take_append_drop _ _
      rw [this]
      unfold Blk
      simpa using hg
    · rw [List.length_drop, Array.length_toList, hcs, Nat.sub_mul]
theorem ownsRow_of {w : World} {e : TypeId} {sz n g cap : Nat} {xs C : List Value} (hb : Blk w g (xs ++ C) e) (hl : xs.length = n * sz) (hnc : n ≤ cap) (hcm : cap ≤ maxLen) (hC : C.length = (cap - n) * sz) : w.ownsRow 0 e sz (.slice (some ⟨g, 0, none⟩) n cap) n xs := by
  refine ⟨hl, .inr ⟨g, cap, (xs ++ C).toArray, rfl, Nat.zero_le _, hb, hnc, hcm, ?_, ?_⟩⟩
  · simp [hl, hC, ← Nat.add_mul]
    rw [show n + (cap - n) = cap by omega]
  · simp [← hl]
theorem MapI.kept {S : Nat → Prop} {w w' : World} {p : Nat} {v : Value} {l : List EntI} (h : MapI w p v l) (hk : Kept S w w') (hp : ¬ S p) (hn : ∀ k, v.ownBlock = some k → ¬ S k) : MapI w' p v l := ⟨hk.blk h.blk hp, ownsRow_kept h.own hk hn, h.srt⟩
theorem MapS.kept {S : Nat → Prop} {w w' : World} {p : Nat} {v : Value} {l : List EntS} (h : MapS w p v l) (hk : Kept S w w') (hp : ¬ S p) (hn : ∀ k, v.ownBlock = some k → ¬ S k) : MapS w' p v l := ⟨hk.blk h.blk hp, ownsRow_kept h.own hk hn, h.srt⟩
/-- The blocks of an order. -/
def footM (p : Nat) (v : Value) (k : Nat) : Prop := k = p ∨ v.ownBlock = some k
theorem ownsRow_lt {w : World} {e : TypeId} {sz n : Nat} {v : Value} {xs : List Value} (h : w.ownsRow 0 e sz v n xs) : ∀ k, v.ownBlock = some k → k < w.heap.size := fun k hk => (h.lt k hk).2

theorem ret2 {a b : Value} {x y : Value} (h : a = x) (k : b = y) : Ending.returned (.tuple #[a, b]) = .returned (.tuple #[x, y]) := by rw [h, k]
end Go.Proofs.Ytkchlmpfegjkfaa
