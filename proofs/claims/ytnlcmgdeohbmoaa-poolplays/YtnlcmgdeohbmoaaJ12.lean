/-
  slices.Clone, of bytes and of blocks; Get.
-/
import Derived.Test.YtnlcmgdeohbmoaaJ11
namespace Go.Proofs.Ytnlcmgdeohbmoaa
open Go.RowKit Go.Shelf
set_option linter.unusedSimpArgs false
set_option linter.unusedVariables false
set_option maxRecDepth 100000

theorem stop_append2 {P : Program} {ops : Array Oper} {Q : Exit → Act → World → Prop} {a : Act} {w : World} {rest : List Oper} {dst : Option Tmp} {ty : TypeId} {pos : String} {aft : Array Edge} {x y : Operand} (t u : TypeId) (h : Hid (wpList P ops Q (⟨dst, .call { callee := .builtin .append, args := #[x, y], argTypes := #[t, u] }, ty, pos, aft, none⟩ :: rest) a w)) : wpList P ops Q (⟨dst, .call { callee := .builtin .append, args := #[x, y], argTypes := #[t, u] }, ty, pos, aft, none⟩ :: rest) a w := h.out
theorem r_bs0n {P : Program} {ρ : Operand → Value} {w : World} {dst : Option Tmp} {t ty e : TypeId} {pos : String} {aft : Array Edge} {gd : Option (Nat × Bool)} {i : TypeInfo} (ht : P.underlying t = some (.slice e)) (hi : P.info? e = some i) :
    (execOp ρ ⟨dst, .buildSlice t 0 #[], ty, pos, aft, gd⟩).run P w = .ok (.value (.slice (some ⟨w.heap.size, 0, none⟩) 0 0)) (w.alloc (.cells #[] e)) := by
  simp [execOp, Instr.buildSlice, run_underlying ht, sizeOf, typeInfo, hi, fill_nil, newRow]
  rw [show Array.range 0 = #[] by simp [Array.range]]
  simp
/-- A slice of one's own, new. -/
def OwnN (N : Nat) (w : World) (s : Sl) (B : List Nat) : Prop := Own w 0 s.v B ∧ ∀ k, s.v.ownBlock = some k → N ≤ k
theorem OwnN.kept {N : Nat} {w w' : World} {s : Sl} {B : List Nat} (h : OwnN N w s B) (hk : Kept (fun _ => False) w w') : OwnN N w' s B := ⟨h.1.kept hk (fun _ _ h => h), h.2⟩
theorem OwnN.src {N : Nat} {w : World} {s : Sl} {B : List Nat} (h : OwnN N w s B) : Src w s.v B := h.1.src
theorem OwnN.mono {N M : Nat} {w : World} {s : Sl} {B : List Nat} (h : OwnN N w s B) (hm : M ≤ N) : OwnN M w s B := ⟨h.1, fun k hk => Nat.le_trans hm (h.2 k hk)⟩

set_option maxRecDepth 100000 in
set_option maxHeartbeats 1000000 in
theorem bclone_at (w : World) (v : Value) (B : List Nat) (hs : Src w v B) (hl : B.length ≤ 90000000) : Calls Try.prog 67 #[v] w fun e w' => ∃ s : Sl, e = .returned (.slice s.a s.n s.c) ∧ OwnN w.heap.size w' s B ∧ Kept (fun _ => False) w w' := by
  have hs' := hs
  obtain ⟨bo, c, rfl, h1, h2, h3, h4⟩ := hs
  have HS := hide hs'
  have H3 := hide h3
  clear hs' h3
  have q25 : ∀ (w : World) (a : Option Addr) (n c : Nat), (binOp .eql 41 (.slice a n c) (.slice none 0 0)).run Try.prog w = .ok (.bool a.isNone) w := fun w a n c => by simp only [binOp]; simp [Op.equal, Op.maxDepth, Lib.run_equalIn_slice_nil w 9999 41 5 a n c 0 0 Try.underlying41]
  cases bo with
  | none =>
    have hB0 : B.length = 0 := by
      rcases Nat.eq_zero_or_pos B.length with h | h
      · exact h
      · obtain ⟨_, _, e, _⟩ := H3.out h; cases e
    obtain rfl : B = [] := List.eq_nil_of_length_eq_zero hB0
    go_enter Try.func67, Try.ntmps67
    go_wp2
    go_ret
    exact ⟨⟨none, 0, 0⟩, rfl, ⟨Own.nil w 0, by simp [Value.ownBlock]⟩, Kept.refl _ _⟩
  | some ad =>
    obtain ⟨i0, hi0, hz0, hs0, hb0⟩ := info_parts Try.info5
    go_enter Try.func67, Try.ntmps67
    go_wp2_with (with_reducible refine stop_bs 41 ?_)
    refine hide ?_
    refine wpList_run rfl (run_bs1 Try.underlying41 hi0 hz0 hs0 [] rfl (by simp) (by simp [Value.cells]) rfl) ?_
    have hb1 := Blk.new w [] 5
    have hk1 : Kept (fun _ => False) w (w.alloc (.cells ([] : List Value).toArray 5)) := Kept.alloc _ _ _
    have hz1 : (w.alloc (.cells ([] : List Value).toArray 5)).heap.size = w.heap.size + 1 := by simp
    generalize w.alloc (.cells ([] : List Value).toArray 5) = w1 at hb1 hk1 hz1
    have ho : Own w1 0 (.slice (some ⟨w.heap.size, 0, none⟩) 0 0) [] := ⟨ownsRow_of (xs := []) (C := []) hb1 rfl (Nat.le_refl _) (Nat.zero_le _) rfl, by simp⟩
    obtain ⟨v', w2, hr, ho2, hk2, hv2⟩ := append_src ho (HS.out.kept hk1) (by simp; omega) (Nat.zero_le _) 41
    have hk3 : Kept (fun _ => False) w w2 := hk1.trans hk2 (fun i hi h => by simp [Value.ownBlock] at h; omega)
    have hv3 : ∀ k, v'.ownBlock = some k → w.heap.size ≤ k := fun k hk => by
      rcases hv2 with h | h
      · rw [h] at hk; simp [Value.ownBlock] at hk; omega
      · rw [h] at hk; simp at hk; omega
    obtain ⟨bo, c', rfl⟩ : ∃ bo c', v' = .slice bo B.length c' := by
      obtain ⟨bo, c', e, _⟩ := ho2.src
      exact ⟨bo, c', by simpa using e⟩
    have HO := hide ho2
    have HV := hide hv3
    have HK := hide hk3
    have HR := hide hr
    clear ho hr ho2 hk2 hv2 hv3 hk3 hb1 hk1 hz1 q25
    simp only [put_lit, List.set_cons_succ, List.set_cons_zero]
    go_wp2_with (with_reducible refine stop_append2 41 41 ?_)
    refine hide ?_
    refine wpList_run rfl (r_append25 rfl rfl HR.out) ?_
    simp only [put_lit, List.set_cons_succ, List.set_cons_zero]
    go_wp2
    go_ret
    exact ⟨⟨bo, B.length, c'⟩, rfl, ⟨by simpa using HO.out, HV.out⟩, HK.out⟩

/-- An array's pointer, as a slice. -/
theorem run_slice_arr {ρ : Operand → Value} {w : World} {dst : Option Tmp} {ty : TypeId} {x : Operand} {pos : String} {aft : Array Edge} {gd : Option (Nat × Bool)} {b off : Nat} (hx : ρ x = .pointer (some ⟨b, off, none⟩)) :
    (execOp ρ ⟨dst, .slice 119 x none none none, ty, pos, aft, gd⟩).run Try.prog w = .ok (.value (.slice (some ⟨b, off, none⟩) 64 64)) w := by
  obtain ⟨i0, hi0, hz0, hs0, hb0⟩ := info_parts Try.info5
  simp [execOp, hx, Instr.sliceAt, run_underlying Try.und62, Instr.sureAddr, Instr.sliceBounds, Instr.sliceBound, sizeOf, typeInfo, hi0, hs0, addr_add]
theorem blk_src {w : World} {g n k : Nat} {B : List Nat} {C : List Value} (h : Blk w g (BV B ++ C) 119) (hl : B.length = 64 * n) (hB : ∀ x ∈ B, x < 256) (hk : k < n) : Src w (.slice (some ⟨g, 64 * k, none⟩) 64 64) (getB B k) := by
  have hlen := getB_len hl hk
  refine ⟨_, 64, by rw [hlen], by omega, getB_lt hB k, fun _ => ⟨g, 64 * k, rfl, ?_⟩, fun h => by cases h⟩
  have := h.cells (64 * k) 64
  rwa [BV_block hl hk] at this
end Go.Proofs.Ytnlcmgdeohbmoaa

/-
  Get.
-/
namespace Go.Proofs.Ytnlcmgdeohbmoaa
open Go.RowKit Go.Shelf
set_option linter.unusedSimpArgs false
set_option linter.unusedVariables false
set_option maxRecDepth 100000

end Go.Proofs.Ytnlcmgdeohbmoaa
