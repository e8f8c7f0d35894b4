/-
  'first', the statements' own first line: it answers true, and touches nothing that was there.
-/
import Derived.Test.YtapoagpkjngjpaaScanN
namespace Go.Proofs.Ytapoagpkjngjpaa
open Go.RowKit Go.Shelf
set_option linter.unusedSimpArgs false
set_option linter.unusedVariables false
set_option maxRecDepth 100000

theorem Kept.freeze {S : Nat → Prop} (w : World) (a : Addr) (n : Nat) (hg : S a.block) : Kept S w (w.freeze a n) := by
  unfold World.freeze
  split
  · exact Kept.refl _ _
  · refine ⟨rfl, rfl, rfl, by simp, fun k hk hn => ?_⟩
    show (w.heap.modify a.block _)[k]? = w.heap[k]?
    rw [Array.getElem?_modify, if_neg (fun e : a.block = k => hn (by rw [← e]; exact hg))]
theorem freeze_cell {w : World} {g : Nat} {L : List Value} {t : TypeId} (h : Blk w g L t) (m : Nat) : Cells (w.freeze ⟨g, m, none⟩ 1) g 0 L := by
  intro j v hj
  unfold Blk at h
  simp [World.cell?, World.freeze, Array.getElem?_modify, h]
  rw [List.getElem?_eq_some_iff] at hj
  obtain ⟨h1, h2⟩ := hj
  simp [h1, h2]
theorem run_cv25 {w : World} {g n c : Nat} {L : List Value} (h : Blk w g L 5) :
    (convert 24 24 (.slice (some ⟨g, 0, none⟩) n c)).run Try.prog w = .ok (.slice (some ⟨g, 0, none⟩) n c) (w.freeze ⟨g, L.length, none⟩ 1) := by
  have hsh : w.shape? g = some (5, L.length) := by
    unfold Blk at h
    unfold World.shape?
    rw [h]
    simp
  simp [convert, run_underlying Try.underlying24, run_underlying Try.underlying5, markStringish, hsh]
section
variable {ρ : Operand → Value} {w : World} {dst : Option Tmp} {ty : TypeId} {pos : String} {aft : Array Edge} {gd : Option (Nat × Bool)} {x y z : Operand}
theorem r_cv25 {g n c : Nat} {L : List Value} (hx : ρ x = .slice (some ⟨g, 0, none⟩) n c) (h : Blk w g L 5) :
    (execOp ρ ⟨dst, .convert 24 24 x, ty, pos, aft, gd⟩).run Try.prog w = .ok (.value (.slice (some ⟨g, 0, none⟩) n c)) (w.freeze ⟨g, L.length, none⟩ 1) := by
  simp [execOp, hx, run_cv25 h]
theorem built27 : Try.prog.built 66 [] = some #[.slice none 0 0] := by rfl
theorem r_build27 : (execOp ρ ⟨dst, .build 66 #[], ty, pos, aft, gd⟩).run Try.prog w = .ok (.value (.agg #[.slice none 0 0])) w := by
  have hr := run_build (P := Try.prog) w 66 #[] _ (by simpa using built27)
  simp [execOp, hr]
end
theorem cells_src {w : World} {g cap : Nat} (B : List Nat) (h : Cells w g 0 (BV B)) (hB : ∀ x ∈ B, x < 256) (hc : B.length ≤ cap) : Src w (.slice (some ⟨g, 0, none⟩) B.length cap) B :=
  ⟨_, _, rfl, hc, hB, fun _ => ⟨g, 0, rfl, h⟩, fun h => by cases h⟩
/-- A text that is a constant, as bytes: it lies in new memory. -/
theorem aw_text {ops : Array Oper} {Q : Exit → Act → World → Prop} {a : Act} {w : World} {rest : List Oper} {d d2 : Nat} {ty ty2 : TypeId} {pos pos2 : String} {aft aft2 : Array Edge} {n : Nat} {es : Array (Nat × Operand)} (M : List Nat) (hn : n = M.length) (hbig : M.length ≤ 16777216) (hM : ∀ x ∈ M, x < 256)
    (hd : d < a.tmps.size) (hes : es.toList.map (fun p => (p.1, a.eval p.2)) = ((BV M).zipIdx 0).map fun p => (p.2, p.1))
    (h : ∀ w' g, Cells w' g 0 (BV M) → w.heap.size ≤ g → Kept (fun _ => False) w w' → wpList Try.prog ops Q rest ((a.put (some d) (.slice (some ⟨g, 0, none⟩) n n)).put (some d2) (.slice (some ⟨g, 0, none⟩) n n)) w') :
    wpList Try.prog ops Q (⟨some d, .buildSlice 24 n es, ty, pos, aft, none⟩ :: ⟨some d2, .convert 24 24 (.tmp d), ty2, pos2, aft2, none⟩ :: rest) a w := by
  subst hn
  refine wpList_run rfl (r_bs25 M rfl hbig hes) ?_
  have hb := Blk.new w (BV M) 5
  refine wpList_run rfl (r_cv25 (g := w.heap.size) (n := M.length) (c := M.length) (eval_put_eq a d _ hd) hb) ?_
  refine h _ _ (freeze_cell hb _) (Nat.le_refl _) ?_
  exact (Kept.alloc (fun _ => False) w _).trans (Kept.freeze (S := fun k => k = w.heap.size) _ _ _ rfl) (fun i hi h => by omega)
/-- A new pen. -/
theorem pen_new {w : World} {p : Nat} (hb : Blk w p [.slice none 0 0] 66) : PenAt w p (.slice none 0 0) [] := ⟨hb, Own.nil w 0⟩

theorem fits_300 : fitsN 300 2 = true := by decide
theorem fits_256 : fitsN 256 1 = false := by decide
theorem pen_1 : penNum [] 300 2 = [1, 44] := by decide
theorem pen_2 : penNum [1, 44] 256 1 = [1, 44] := by decide
theorem pen_3 : [1, 44] ++ textB [120, 121] = [1, 44, 0, 2, 120, 121] := by decide
theorem pen_4 : padN [1, 44, 0, 2, 120, 121] 8 = [1, 44, 0, 2, 120, 121, 0, 0] := by decide
theorem sc_1 : scanNum [1, 44, 0, 2, 120, 121, 0, 0] 0 2 = (300, [0, 2, 120, 121, 0, 0], 0) := by decide
theorem sc_2 : scanText [0, 2, 120, 121, 0, 0] 0 2 = ([120, 121], [0, 0], 0) := by decide
theorem sc_3 : noughtsN [0, 0] 0 = true := by decide
theorem sc_4 : scanNum [0, 0] 0 3 = (0, [0, 0], 20) := by decide

end Go.Proofs.Ytapoagpkjngjpaa
