/-
  Slices of one's own: append bytes, and noughts; where the slice lies afterwards.
-/
import Derived.Test.YtclfklcboigifaaPTypes
import Derived.Maps.AppendAt
namespace Go.Proofs.Ytclfklcboigifaa
open Go.RowKit Go.Shelf
set_option linter.unusedSimpArgs false
set_option linter.unusedVariables false
set_option maxRecDepth 100000

/-- A slice of one's own that holds the bytes A. -/
def Own (w : World) (base : Nat) (v : Value) (A : List Nat) : Prop := w.ownsRow base 5 1 v A.length (BV A) ∧ ∀ x ∈ A, x < 256
theorem Blk.src {w : World} {g cap : Nat} {L : List Value} {B : List Nat} (h : Blk w g L 5) (hL : L.take B.length = BV B) (hB : ∀ x ∈ B, x < 256) (hc : B.length ≤ cap) : Src w (.slice (some ⟨g, 0, none⟩) B.length cap) B := by
  refine ⟨_, _, rfl, hc, hB, fun _ => ⟨g, 0, rfl, ?_⟩, fun h => by cases h⟩
  have := h.cells 0 B.length
  rw [List.drop_zero, hL] at this
  exact this
theorem Own.src {w : World} {base : Nat} {v : Value} {A : List Nat} (h : Own w base v A) : Src w v A := by
  obtain ⟨h, hA⟩ := h
  rcases h.2 with ⟨rfl, h0⟩ | ⟨g, cap, cur, rfl, hb, hg, hnc, hcm, hcs, htake⟩
  · obtain rfl : A = [] := List.eq_nil_of_length_eq_zero h0
    exact ⟨none, 0, rfl, Nat.le_refl _, hA, fun h => by simp at h, fun _ => rfl⟩
  · refine Blk.src (L := cur.toList) (by unfold Blk; simpa using hg) ?_ hA hnc
    simpa using htake
theorem Own.nil (w : World) (base : Nat) : Own w base (.slice none 0 0) [] := ⟨World.ownsRow_nil _ _ _ _, by simp⟩
theorem Own.kept {w w' : World} {base : Nat} {v : Value} {A : List Nat} {S : Nat → Prop} (h : Own w base v A) (hk : Kept S w w') (hn : ∀ k, v.ownBlock = some k → ¬ S k) : Own w' base v A := by
  obtain ⟨⟨h1, h2⟩, hA⟩ := h
  refine ⟨⟨h1, ?_⟩, hA⟩
  rcases h2 with h2 | ⟨g, cap, cur, rfl, hb, hg, hr⟩
  · exact .inl h2
  · exact .inr ⟨g, cap, cur, rfl, hb, (hk.block g (Array.getElem?_eq_some_iff.1 hg).1 (hn g rfl)).trans hg, hr⟩
/-- The block of such a slice is of bytes. -/
theorem Own.blk_ne {w : World} {base : Nat} {v : Value} {A : List Nat} {b : Nat} {L : List Value} {t : TypeId} (h : Own w base v A) (hb : Blk w b L t) (ht : t ≠ 5) : v.ownBlock ≠ some b := by
  intro e
  rcases h.1.2 with ⟨rfl, _⟩ | ⟨g, cap, cur, rfl, _, hg, _⟩
  · simp [Value.ownBlock] at e
  · simp [Value.ownBlock] at e
    subst e
    unfold Blk at hb
    rw [hg] at hb
    simp at hb
    exact ht hb.2.symm
theorem Own.lt {w : World} {base : Nat} {v : Value} {A : List Nat} (h : Own w base v A) : ∀ k, v.ownBlock = some k → k < w.heap.size := fun k hk => (h.1.lt k hk).2
theorem append_src {w : World} {base : Nat} {v u : Value} {A B : List Nat} (ho : Own w base v A) (hs : Src w u B) (hl : A.length + B.length ≤ 100000000) (hb : base ≤ w.heap.size) (ty : TypeId) :
    ∃ v' w', (Builtin.append_ #[40, 40] ty #[v, u]).run Try.prog w = .ok v' w' ∧ Own w' base v' (A ++ B) ∧ Kept (fun k => v.ownBlock = some k) w w' ∧ (v'.ownBlock = v.ownBlock ∨ v'.ownBlock = some w.heap.size) := by
  obtain ⟨i5, hi5, hz5, hs5, hb5⟩ := info_parts Try.info5
  obtain ⟨ho, hA⟩ := ho
  have hB := hs.lt
  have hAB : ∀ x ∈ A ++ B, x < 256 := fun x hx => by
    rcases List.mem_append.1 hx with h | h
    · exact hA x h
    · exact hB x h
  obtain ⟨bo, cap, rfl, hcap, _, hsrc, hnil⟩ := hs
  cases bo with
  | none =>
    obtain rfl : cap = 0 := hnil rfl
    obtain rfl : B = [] := List.eq_nil_of_length_eq_zero (by omega)
    have h := run_append_owned_none (P := Try.prog) (w := w) base 40 ty 5 i5 1 Try.underlying40 hi5 v A.length (BV A) ho
    refine ⟨_, _, h, ⟨by simpa using ho, hAB⟩, Kept.refl _ _, .inl rfl⟩
  | some a =>
    have hn : ∀ j u, (BV B)[j]? = some u → w.cell? (a.add j) = some u := by
      intro j u hj
      by_cases h0 : 0 < B.length
      · obtain ⟨sb, so, he, hc⟩ := hsrc h0
        cases he
        rw [addr_add]
        exact hc j u hj
      · obtain rfl : B = [] := List.eq_nil_of_length_eq_zero (by omega)
        simp [BV] at hj
    obtain ⟨v', w', hr, h2, h3, _, h5⟩ := run_append_own_at (P := Try.prog) w base 40 ty 5 i5 _ 1 1 Try.underlying40 hi5 hz5 hs5 hb5 rfl (by decide) v A.length (BV A) ho a B.length cap (BV B) (by simp [BV]) hn (BV_one B) (by unfold maxLen; omega) (by omega) hb
    refine ⟨v', w', hr, ⟨by simpa [BV_append] using h2, hAB⟩, ?_, h5⟩
    have hk := Kept.of_grown h3
    exact hk

theorem zeroC (n : Nat) : Builtin.zeroCells (Value.cells (.int .u8 0)) n = (BV (List.replicate n 0)).toArray := by
  apply Array.ext
  · simp [Builtin.zeroCells, BV, Value.cells]
  · intro i h1 h2
    simp [Builtin.zeroCells, BV, Value.cells, Nat.mod_one]
/-- append(v, make([]byte, m)...). -/
theorem append_zero {w : World} {base : Nat} {v : Value} {A : List Nat} (ho : Own w base v A) (m : Nat) (hl : A.length + m ≤ 100000000) (hb : base ≤ w.heap.size) (ty : TypeId) :
    ∃ v' w', (Builtin.append_ #[40, 3] ty #[v, .int .i64 m]).run Try.prog w = .ok v' w' ∧ Own w' base v' (A ++ List.replicate m 0) ∧ Kept (fun k => v.ownBlock = some k) w w' ∧ (v'.ownBlock = v.ownBlock ∨ v'.ownBlock = some w.heap.size) := by
  obtain ⟨i5, hi5, hz5, hs5, hb5⟩ := info_parts Try.info5
  obtain ⟨ho, hA⟩ := ho
  have hAB : ∀ x ∈ A ++ List.replicate m 0, x < 256 := fun x hx => by
    rcases List.mem_append.1 hx with h | h
    · exact hA x h
    · have := List.eq_of_mem_replicate h
      omega
  have hw : IntKind.i64.wrap (m : Int) = (m : Int) := by rw [IntKind.wrap_i64]; omega
  have hw0 : IntKind.i64.wrap 0 = 0 := by decide
  have hn0 : ¬ ((m : Int) < 0) := by omega
  have hbig : ¬ ((281474976710656 : Int) < (m : Int)) := by omega
  have hz := zeroC m
  have hlen : (BV A ++ BV (List.replicate m 0)).length = (A.length + m) * 1 := by simp [BV]
  have hown2 : (A ++ List.replicate m 0).length = A.length + m := by simp
  have hN1 : ∀ u ∈ BV (List.replicate m 0), u.oneCell' = true := BV_one _
  have grown : ∀ (old : Nat), old < A.length + m → ∀ (row : Option Nat),
      Own (w.drew.alloc (.cells ((BV A).toArray ++ (BV (List.replicate m 0)).toArray ++ Builtin.zeroCells (Value.cells (.int .u8 0)) (grownCap w (A.length + m) old 5 - (A.length + m))) 5)) base
        (.slice (some ⟨w.heap.size, 0, none⟩) (A.length + m) (grownCap w (A.length + m) old 5)) (A ++ List.replicate m 0) ∧
      Kept (fun k => row = some k) w (w.drew.alloc (.cells ((BV A).toArray ++ (BV (List.replicate m 0)).toArray ++ Builtin.zeroCells (Value.cells (.int .u8 0)) (grownCap w (A.length + m) old 5 - (A.length + m))) 5)) := by
    intro old hold row
    have hge := grownCap_ge w (A.length + m) old 5
    have hcm : grownCap w (A.length + m) old 5 ≤ maxLen := grownCap_le_maxLen w (A.length + m) old 5 (by unfold maxLen; omega)
    refine ⟨⟨⟨by rw [hown2, BV_append]; exact hlen, .inr ⟨w.heap.size, _, _, by rw [hown2], hb, heap_alloc_new w.drew _, by rw [hown2]; exact hge, hcm, ?_, ?_⟩⟩, hAB⟩, ⟨rfl, rfl, rfl, by simp, fun k hk _ => Below.heap_alloc w.drew _ k hk⟩⟩
    · simp only [Array.size_append, List.size_toArray, size_zeroCells, BV_length, List.length_replicate]
      have : (Value.cells (.int .u8 0)).size = 1 := rfl
      rw [this]
      omega
    · rw [hown2, BV_append, ← hlen]
      simp only [Array.toList_append, List.append_assoc]
      rw [← List.append_assoc]
      exact List.take_left
  rcases ho.2 with ⟨rfl, h0⟩ | ⟨g, cap, cur, rfl, hbg, hg, hnc, hcm, hcs, htake⟩
  · obtain rfl : A = [] := List.eq_nil_of_length_eq_zero h0
    by_cases hm : m = 0
    · subst hm
      refine ⟨.slice none 0 0, w, ?_, Own.nil w base, Kept.refl _ _, .inl rfl⟩
      simp [Builtin.append_, run_underlying Try.underlying40, run_underlying Try.underlying3, sizeOf, typeInfo, hi5, hs5, hb5, asInt, asIntOf, hw, hw0]
    · have hgr := grown 0 (by simp; omega) (Value.ownBlock (.slice none 0 0))
      simp only [List.length_nil, Nat.zero_add, List.nil_append, BV, List.map_nil, Array.empty_append] at hgr ⊢
      have h48' : ¬ (281474976710656 < Builtin.nextslicecap m 0) := by rw [nextslicecap_zero (by omega)]; omega
      have h63' : ¬ (9223372036854775807 < (m : Int)) := by omega
      have hmm : ¬ (m * 1 = 0) := by omega
      refine ⟨_, _, ?_, hgr.1, hgr.2, .inr rfl⟩
      simp [Builtin.append_, run_underlying Try.underlying40, run_underlying Try.underlying3, sizeOf, typeInfo, zeroValue, hi5, hs5, hb5, hz5, asInt, asIntOf, hw, hn0, hbig, hm, h48', h63', Question.forced, run_firstCells_none, newRow, grownCap, hz, BV]
  · by_cases hroom : A.length + m ≤ cap
    · have hfit : A.length * 1 + (BV (List.replicate m 0)).length ≤ cur.size := by rw [BV_length, hcs]; simp; omega
      have hst := run_storeCells_at (P := Try.prog) g A.length 5 (BV (List.replicate m 0)) 0 cur w hg (by rw [hcs]; simp [BV]; omega) hN1
      by_cases hm : m = 0
      · subst hm
        refine ⟨_, w, ?_, ⟨by simpa using ho, hAB⟩, Kept.refl _ _, .inl rfl⟩
        simp [Builtin.append_, run_underlying Try.underlying40, run_underlying Try.underlying3, sizeOf, typeInfo, hi5, hs5, hb5, asInt, asIntOf, hw, hw0, hnc, storeCells]
      · refine ⟨.slice (some ⟨g, 0, none⟩) (A.length + m) cap, w.setRow g (cur.toList.take (A.length + 0) ++ BV (List.replicate m 0) ++ cur.toList.drop (A.length + 0 + (BV (List.replicate m 0)).length)).toArray, ?_, ⟨⟨by rw [hown2, BV_append]; exact hlen, .inr ⟨g, cap, _, by rw [hown2], hbg, setRow_heap w g cur _ 5 _ hg, by rw [hown2]; exact hroom, hcm, ?_, ?_⟩⟩, hAB⟩, Kept.setRow w g _ rfl, .inl rfl⟩
        · simp [Builtin.append_, run_underlying Try.underlying40, run_underlying Try.underlying3, sizeOf, typeInfo, zeroValue, hi5, hs5, hb5, hz5, asInt, asIntOf, hw, hn0, hbig, hm, hroom, hz, addr_add]
          simp at hst
          rw [hst]
          rfl
        · simp [BV]
          omega
        · rw [hown2, BV_append, Nat.add_zero, show cur.toList.take A.length = BV A by simpa using htake, ← hlen]
          exact List.take_left
    · have holds : ∀ j u, (BV A)[j]? = some u → w.cell? ((⟨g, 0, none⟩ : Addr).add j) = some u := ho.cells (g := g) rfl
      have hfo := run_firstCells_some (P := Try.prog) w.drew 1 A.length ⟨g, 0, none⟩ A.length cap (BV A) (by simp [BV]) (by simpa using holds)
      have hgr := grown cap (by omega) (Value.ownBlock (.slice (some ⟨g, 0, none⟩) A.length cap))
      have h48' : ¬ (281474976710656 < Builtin.nextslicecap (A.length + m) cap) := by have := growslice_fits (need := A.length + m) (old := cap) (bytes := 1) (by omega) (by omega); omega
      have h63' : ¬ (9223372036854775807 < (A.length : Int) + (m : Int)) := by omega
      have hm : ¬ m = 0 := by omega
      refine ⟨_, _, ?_, hgr.1, hgr.2, .inr rfl⟩
      simp [Builtin.append_, run_underlying Try.underlying40, run_underlying Try.underlying3, sizeOf, typeInfo, zeroValue, hi5, hs5, hb5, hz5, asInt, asIntOf, hw, hn0, hbig, hm, hroom, h48', h63', Question.forced, hfo, newRow, grownCap, hz]
      congr 2
      apply Array.ext'
      simp [List.append_assoc]

end Go.Proofs.Ytclfklcboigifaa
