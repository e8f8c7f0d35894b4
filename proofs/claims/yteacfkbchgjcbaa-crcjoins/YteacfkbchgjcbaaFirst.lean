/-
  'first', the statements' own first line: it answers true, and touches nothing that was there.
-/
import Derived.Test.YteacfkbchgjcbaaMarkG
namespace Go.Proofs.Yteacfkbchgjcbaa
open Go.RowKit Go.Shelf
set_option linter.unusedSimpArgs false
set_option linter.unusedVariables false

theorem Kept.freeze {S : Nat → Prop} (w : World) (a : Addr) (n : Nat) (hg : S a.block) : Kept S w (w.freeze a n) := by
  unfold World.freeze
  split
  · exact Kept.refl _ _
  · refine ⟨rfl, rfl, rfl, by simp, fun k hk hn => ?_⟩
    show (w.heap.modify a.block _)[k]? = w.heap[k]?
    rw [Array.getElem?_modify, if_neg (fun e : a.block = k => hn (by rw [← e]; exact hg))]
theorem freeze_cell {w : World} {g : Nat} {L : List Value} {t : TypeId} (h : Blk w g L t) (m : Nat) : Cells (w.freeze ⟨g, m, none⟩ 1) g 0 L := by
  intro j v hj
  unfold Blk at h
  simp [World.cell?, World.freeze, Array.getElem?_modify, h]
  rw [List.getElem?_eq_some_iff] at hj
  obtain ⟨h1, h2⟩ := hj
  simp [h1, h2]

/-- '[]byte' of a text that is a constant: bytes in new memory, marked. -/
theorem run_cv22 {w : World} {g n c : Nat} {L : List Value} (h : Blk w g L 5) :
    (convert 22 22 (.slice (some ⟨g, 0, none⟩) n c)).run Try.prog w = .ok (.slice (some ⟨g, 0, none⟩) n c) (w.freeze ⟨g, L.length, none⟩ 1) := by
  have hsh : w.shape? g = some (5, L.length) := by
    unfold Blk at h
    unfold World.shape?
    rw [h]
    simp
  simp [convert, run_underlying Try.underlying22, run_underlying Try.underlying5, markStringish, hsh]

section
variable {ρ : Operand → Value} {w : World} {dst : Option Tmp} {ty : TypeId} {pos : String} {aft : Array Edge} {gd : Option (Nat × Bool)} {x y z : Operand}
theorem r_cv22 {g n c : Nat} {L : List Value} (hx : ρ x = .slice (some ⟨g, 0, none⟩) n c) (h : Blk w g L 5) :
    (execOp ρ ⟨dst, .convert 22 22 x, ty, pos, aft, gd⟩).run Try.prog w = .ok (.value (.slice (some ⟨g, 0, none⟩) n c)) (w.freeze ⟨g, L.length, none⟩ 1) := by
  simp [execOp, hx, run_cv22 h]
end

theorem blk_src {w : World} {g : Nat} (B : List Nat) (h : Blk w g (BV B) 5) (hB : ∀ x ∈ B, x < 256) : Src w (.slice (some ⟨g, 0, none⟩) B.length B.length) B :=
  h.src (List.take_of_length_le (by rw [BV_length]; exact Nat.le_refl _)) hB (Nat.le_refl _)
theorem cells_src {w : World} {g cap : Nat} (B : List Nat) (h : Cells w g 0 (BV B)) (hB : ∀ x ∈ B, x < 256) (hc : B.length ≤ cap) : Src w (.slice (some ⟨g, 0, none⟩) B.length cap) B :=
  ⟨_, _, rfl, hc, hB, fun _ => ⟨g, 0, rfl, h⟩, fun h => by cases h⟩

/-- A text that is a constant, as bytes. -/
theorem aw_text {ops : Array Oper} {Q : Exit → Act → World → Prop} {a : Act} {w : World} {rest : List Oper} {d d2 : Nat} {ty ty2 : TypeId} {pos pos2 : String} {aft aft2 : Array Edge} {n : Nat} {es : Array (Nat × Operand)} (M : List Nat) (hn : n = M.length) (hbig : M.length ≤ 16777216) (hM : ∀ x ∈ M, x < 256)
    (hd : d < a.tmps.size) (hes : es.toList.map (fun p => (p.1, a.eval p.2)) = ((BV M).zipIdx 0).map fun p => (p.2, p.1))
    (h : ∀ w' g, Src w' (.slice (some ⟨g, 0, none⟩) n n) M → Kept (fun _ => False) w w' → wpList Try.prog ops Q rest ((a.put (some d) (.slice (some ⟨g, 0, none⟩) n n)).put (some d2) (.slice (some ⟨g, 0, none⟩) n n)) w') :
    wpList Try.prog ops Q (⟨some d, .buildSlice 22 n es, ty, pos, aft, none⟩ :: ⟨some d2, .convert 22 22 (.tmp d), ty2, pos2, aft2, none⟩ :: rest) a w := by
  subst hn
  refine wpList_run rfl (r_bs22 M rfl hbig hes) ?_
  have hb := Blk.new w (BV M) 5
  refine wpList_run rfl (r_cv22 (g := w.heap.size) (n := M.length) (c := M.length) (eval_put_eq a d _ hd) hb) ?_
  refine h _ _ (cells_src M (freeze_cell hb _) hM (Nat.le_refl _)) ?_
  exact (Kept.alloc (fun _ => False) w _).trans (Kept.freeze (S := fun k => k = w.heap.size) _ _ _ rfl) (fun i hi h => by omega)

theorem first_sum : joinN 0 [49, 50, 51, 52, 53, 54, 55, 56, 57] = 3421780262 := by decide +kernel
theorem first_mark : ∃ M, markN [97, 98, 48, 48, 48, 48] = M ∧ M.length = 6 ∧ (∀ x ∈ M, x < 256) ∧ goodN M = true ∧ M.take 2 = [97, 98] ∧ goodN (M.take 5) = false :=
  ⟨_, rfl, markN_length _, markN_lt _ (by decide), goodN_mark _ (by decide), by decide +kernel, by decide +kernel⟩

set_option maxRecDepth 100000 in
set_option maxHeartbeats 400000 in
theorem first_any (w : World) : Calls Try.prog 6 #[] w fun e w' => e = .returned (.bool true) ∧ Kept (fun _ => False) w w' := by
  go_enter Try.func6, Try.ntmps6
  go_wp2_with (first
    | ((with_reducible refine aw_text (d := 2) (d2 := 3) [97, 98, 48, 48, 48, 48] rfl (by decide) (by decide) (by simp) rfl ?_); intro w1 g1 hs1 hk1)
    | (go_at_call 10; refine (mark_at w1 _ [97, 98, 48, 48, 48, 48] hs1 (by decide)).mono ?_; rintro e w2 ⟨g, rfl, hg, hlt, hk2⟩)
    | ((with_reducible refine aw_text (d := 5) (d2 := 6) [49, 50, 51, 52, 53, 54, 55, 56, 57] rfl (by decide) (by decide) (by simp) rfl ?_); intro w3 g3 hs3 hk3)
    | (go_at_call 7; refine (sum_at w3 _ [49, 50, 51, 52, 53, 54, 55, 56, 57] hs3 (by decide)).mono ?_; rintro e w4 ⟨rfl, rfl⟩; rw [first_sum]))
  refine (sum_at _ _ [49, 50] (blk_src _ (Blk.new w3 (BV [49, 50]) 5) (by decide)) (by decide)).mono ?_
  rintro e w4 ⟨rfl, rfl⟩
  have hk4 := Kept.alloc (fun _ => False) w3 (.cells (BV [49, 50]).toArray 5)
  generalize w3.alloc (.cells (BV [49, 50]).toArray 5) = w4 at *
  obtain ⟨j2, hj2⟩ : ∃ j, joinN 0 [49, 50] = j := ⟨_, rfl⟩
  have HJ2 := hide hj2
  rw [hj2]
  clear hj2
  go_wp2_with fail
  have hb5 := Blk.new w4 (BV [51, 52, 53, 54, 55, 56, 57]) 5
  have hcv : (convert 22 22 (.slice (some ⟨w4.heap.size, 0, none⟩) 7 7)).run Try.prog (w4.alloc (.cells #[.int .u8 51, .int .u8 52, .int .u8 53, .int .u8 54, .int .u8 55, .int .u8 56, .int .u8 57] 5)) = .ok (.slice (some ⟨w4.heap.size, 0, none⟩) 7 7) ((w4.alloc (.cells (BV [51, 52, 53, 54, 55, 56, 57]).toArray 5)).freeze ⟨w4.heap.size, (BV [51, 52, 53, 54, 55, 56, 57]).length, none⟩ 1) := run_cv22 hb5
  rw [hcv]
  clear hcv
  have hk5 : Kept (fun _ => False) w4 ((w4.alloc (.cells (BV [51, 52, 53, 54, 55, 56, 57]).toArray 5)).freeze ⟨w4.heap.size, (BV [51, 52, 53, 54, 55, 56, 57]).length, none⟩ 1) := (Kept.alloc (fun _ => False) w4 _).trans (Kept.freeze (S := fun k => k = w4.heap.size) _ _ _ rfl) (fun i hi h => by omega)
  have hs5 := cells_src (cap := 7) [51, 52, 53, 54, 55, 56, 57] (freeze_cell hb5 (BV [51, 52, 53, 54, 55, 56, 57]).length) (by decide) (by decide)
  generalize (w4.alloc (.cells (BV [51, 52, 53, 54, 55, 56, 57]).toArray 5)).freeze ⟨w4.heap.size, (BV [51, 52, 53, 54, 55, 56, 57]).length, none⟩ 1 = w5 at *
  have hj2l : j2 < 4294967296 := by rw [← HJ2.out]; exact joinN_lt _ _
  have hk05 := ((hk2.trans hk3 (fun _ _ h => h)).trans hk4 (fun _ _ h => h)).trans hk5 (fun _ _ h => h)
  have hm5 : Blk w5 g (BV (markN [97, 98, 48, 48, 48, 48])) 5 := ((hk3.trans hk4 (fun _ _ h => h)).trans hk5 (fun _ _ h => h)).blk hg (fun h => h)
  clear hb5 hg hs3 hs1 hk2 hk3 hk4 hk5
  have HJ3 : Hid (joinN j2 [51, 52, 53, 54, 55, 56, 57] = 3421780262) := hide (by
    rw [← HJ2.out, joinN_join 0 _ _ (by decide) (by decide)]
    exact first_sum)
  obtain ⟨M, hM, hM6, hMb, hMg, hM2, hM5⟩ := first_mark
  rw [hM] at hm5
  have hsM := blk_src M hm5 hMb
  rw [hM6] at hsM
  have hG1 := good_at w5 _ M hsM (by omega)
  rw [hMg] at hG1
  have HG1 := hide hG1
  have HM5 := hide hm5
  have HG5 := hide hM5
  have HMb := hide hMb
  have HM2 := hide hM2
  have HL5 : Hid (Value.slice (some ⟨g, 0, none⟩) 5 6 = .slice (some ⟨g, 0, none⟩) (M.take 5).length 6) := hide (by rw [List.length_take, hM6]; rfl)
  clear hG1 hm5 hM hM5 hMb hM2
  go_wp2_with fail
  refine (join_at w5 j2 hj2l _ [51, 52, 53, 54, 55, 56, 57] hs5 (by decide)).mono ?_
  rintro e w6 ⟨rfl, rfl⟩
  rw [HJ3.out]
  go_wp2_with fail
  refine HG1.out.mono ?_
  rintro e w7 ⟨rfl, hk7⟩
  have hm7 := hk7.blk HM5.out (fun h => h)
  go_wp2_with fail
  have hs7 : Src w7 (.slice (some ⟨g, 0, none⟩) 5 6) (M.take 5) := ⟨some ⟨g, 0, none⟩, 6, HL5.out, by rw [List.length_take]; omega, fun x hx => HMb.out x (List.mem_of_mem_take hx), fun _ => ⟨g, 0, rfl, by have := hm7.cells 0 5; rw [List.drop_zero, ← BV_take] at this; exact this⟩, fun h => by cases h⟩
  have hG7 := good_at w7 _ (M.take 5) hs7 (by rw [List.length_take]; omega)
  rw [HG5.out] at hG7
  refine hG7.mono ?_
  rintro e w8 ⟨rfl, hk8⟩
  have hm8 := hk8.blk hm7 (fun h => h)
  go_wp2_with fail
  have hs8 : Src w8 (.slice (some ⟨g, 0, none⟩) 2 6) [97, 98] := ⟨some ⟨g, 0, none⟩, 6, rfl, by decide, by decide, fun _ => ⟨g, 0, rfl, by have := hm8.cells 0 2; rw [List.drop_zero, ← BV_take, HM2.out] at this; exact this⟩, fun h => by cases h⟩
  rw [run_strS hs8, show strN [97, 98] = ⟨#[97, 98]⟩ from rfl]
  have hkf := ((hk1.trans hk05 (fun _ _ h => h)).trans hk7 (fun _ _ h => h)).trans hk8 (fun _ _ h => h)
  go_wp2
  go_ret
  exact ⟨rfl, hkf⟩

end Go.Proofs.Yteacfkbchgjcbaa
