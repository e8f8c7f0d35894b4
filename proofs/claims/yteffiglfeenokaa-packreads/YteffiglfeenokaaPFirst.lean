/-
  'first', the statements' own first line: it answers true, and touches nothing that was there.
-/
import Derived.Test.YteffiglfeenokaaScanN
namespace Go.Proofs.Yteffiglfeenokaa
open Go.RowKit Go.Shelf
set_option linter.unusedSimpArgs false
set_option linter.unusedVariables false

theorem Kept.freeze {S : Nat → Prop} (w : World) (a : Addr) (n : Nat) (hg : S a.block) : Kept S w (w.freeze a n) := by
  unfold World.freeze
  split
  · exact Kept.refl _ _
  · refine ⟨rfl, rfl, rfl, by simp, fun k hk hn => ?_⟩
    show (w.heap.modify a.block _)[k]? = w.heap[k]?
    rw [Array.getElem?_modify, if_neg (fun e : a.block = k => hn (by rw [← e]; exact hg))]
theorem freeze_cell {w : World} {g : Nat} {L : List Value} {t : TypeId} (h : Blk w g L t) (m : Nat) : Cells (w.freeze ⟨g, m, none⟩ 1) g 0 L := by
  intro j v hj
  unfold Blk at h
  simp [World.cell?, World.freeze, Array.getElem?_modify, h]
  rw [List.getElem?_eq_some_iff] at hj
  obtain ⟨h1, h2⟩ := hj
  simp [h1, h2]
theorem run_cv25 {w : World} {g n c : Nat} {L : List Value} (h : Blk w g L 5) :
    (convert 25 25 (.slice (some ⟨g, 0, none⟩) n c)).run Try.prog w = .ok (.slice (some ⟨g, 0, none⟩) n c) (w.freeze ⟨g, L.length, none⟩ 1) := by
  have hsh : w.shape? g = some (5, L.length) := by
    unfold Blk at h
    unfold World.shape?
    rw [h]
    simp
  simp [convert, run_underlying Try.underlying25, run_underlying Try.underlying5, markStringish, hsh]
section
variable {ρ : Operand → Value} {w : World} {dst : Option Tmp} {ty : TypeId} {pos : String} {aft : Array Edge} {gd : Option (Nat × Bool)} {x y z : Operand}
theorem r_cv25 {g n c : Nat} {L : List Value} (hx : ρ x = .slice (some ⟨g, 0, none⟩) n c) (h : Blk w g L 5) :
    (execOp ρ ⟨dst, .convert 25 25 x, ty, pos, aft, gd⟩).run Try.prog w = .ok (.value (.slice (some ⟨g, 0, none⟩) n c)) (w.freeze ⟨g, L.length, none⟩ 1) := by
  simp [execOp, hx, run_cv25 h]
theorem built27 : Try.prog.built 27 [] = some #[.slice none 0 0] := by rfl
theorem r_build27 : (execOp ρ ⟨dst, .build 27 #[], ty, pos, aft, gd⟩).run Try.prog w = .ok (.value (.agg #[.slice none 0 0])) w := by
  have hr := run_build (P := Try.prog) w 27 #[] _ (by simpa using built27)
  simp [execOp, hr]
end
theorem cells_src {w : World} {g cap : Nat} (B : List Nat) (h : Cells w g 0 (BV B)) (hB : ∀ x ∈ B, x < 256) (hc : B.length ≤ cap) : Src w (.slice (some ⟨g, 0, none⟩) B.length cap) B :=
  ⟨_, _, rfl, hc, hB, fun _ => ⟨g, 0, rfl, h⟩, fun h => by cases h⟩
/-- A text that is a constant, as bytes: it lies in new memory. -/
theorem aw_text {ops : Array Oper} {Q : Exit → Act → World → Prop} {a : Act} {w : World} {rest : List Oper} {d d2 : Nat} {ty ty2 : TypeId} {pos pos2 : String} {aft aft2 : Array Edge} {n : Nat} {es : Array (Nat × Operand)} (M : List Nat) (hn : n = M.length) (hbig : M.length ≤ 16777216) (hM : ∀ x ∈ M, x < 256)
    (hd : d < a.tmps.size) (hes : es.toList.map (fun p => (p.1, a.eval p.2)) = ((BV M).zipIdx 0).map fun p => (p.2, p.1))
    (h : ∀ w' g, Cells w' g 0 (BV M) → w.heap.size ≤ g → Kept (fun _ => False) w w' → wpList Try.prog ops Q rest ((a.put (some d) (.slice (some ⟨g, 0, none⟩) n n)).put (some d2) (.slice (some ⟨g, 0, none⟩) n n)) w') :
    wpList Try.prog ops Q (⟨some d, .buildSlice 25 n es, ty, pos, aft, none⟩ :: ⟨some d2, .convert 25 25 (.tmp d), ty2, pos2, aft2, none⟩ :: rest) a w := by
  subst hn
  refine wpList_run rfl (r_bs25 M rfl hbig hes) ?_
  have hb := Blk.new w (BV M) 5
  refine wpList_run rfl (r_cv25 (g := w.heap.size) (n := M.length) (c := M.length) (eval_put_eq a d _ hd) hb) ?_
  refine h _ _ (freeze_cell hb _) (Nat.le_refl _) ?_
  exact (Kept.alloc (fun _ => False) w _).trans (Kept.freeze (S := fun k => k = w.heap.size) _ _ _ rfl) (fun i hi h => by omega)
/-- A new pen. -/
theorem pen_new {w : World} {p : Nat} (hb : Blk w p [.slice none 0 0] 27) : PenAt w p (.slice none 0 0) [] := ⟨hb, Own.nil w 0⟩

theorem fits_300 : fitsN 300 2 = true := by decide
theorem fits_256 : fitsN 256 1 = false := by decide
theorem pen_1 : penNum [] 300 2 = [1, 44] := by decide
theorem pen_2 : penNum [1, 44] 256 1 = [1, 44] := by decide
theorem pen_3 : [1, 44] ++ textB [120, 121] = [1, 44, 0, 2, 120, 121] := by decide
theorem pen_4 : padN [1, 44, 0, 2, 120, 121] 8 = [1, 44, 0, 2, 120, 121, 0, 0] := by decide
theorem sc_1 : scanNum [1, 44, 0, 2, 120, 121, 0, 0] 0 2 = (300, [0, 2, 120, 121, 0, 0], 0) := by decide
theorem sc_2 : scanText [0, 2, 120, 121, 0, 0] 0 2 = ([120, 121], [0, 0], 0) := by decide
theorem sc_3 : noughtsN [0, 0] 0 = true := by decide
theorem sc_4 : scanNum [0, 0] 0 3 = (0, [0, 0], 20) := by decide

set_option maxRecDepth 100000 in
set_option maxHeartbeats 4000000 in
theorem first_any (w : World) : Calls Try.prog 7 #[] w fun e w' => e = .returned (.bool true) ∧ Kept (fun _ => False) w w' := by
  go_enter Try.func7, Try.ntmps7
  go_wp2_with (with_reducible refine stop_build 27 ?_)
  refine hide ?_
  refine wpList_run rfl r_build27 ?_
  refine aw_box (v := .agg #[.slice none 0 0]) rfl ?_
  intro w1 hb1 hk1 hz1
  have hP1 : PenAt w1 w.heap.size (.slice none 0 0) [] := pen_new hb1
  have hp0 : w.heap.size ≤ w.heap.size := Nat.le_refl _
  generalize hpp : w.heap.size = p at hP1 hb1 hp0
  have HP1 := hide hP1
  clear hb1 hz1 hP1
  have Hpp := hide hpp
  clear hpp
  go_wp2_with fail
  have hN1 := number_at w1 p (.slice none 0 0) [] HP1.out (by simp) 300 2 (by decide)
  rw [fits_300, pen_1] at hN1
  refine hN1.mono ?_
  rintro e w2 ⟨v2, rfl, hP2, hk2, hm2⟩
  have HP2 := hide hP2
  clear hN1 hP2
  go_wp2_with fail
  have hN2 := number_at w2 p v2 [1, 44] HP2.out (by simp) 256 1 (by decide)
  rw [fits_256, pen_2] at hN2
  refine hN2.mono ?_
  rintro e w3 ⟨v3, rfl, hP3, hk3, hm3⟩
  have HP3 := hide hP3
  clear hN2 hP3
  go_wp2_with ((with_reducible refine aw_text (d := 13) (d2 := 14) [120, 121] rfl (by decide) (by decide) (by simp) rfl ?_); intro w4 g hg hgs hk4)
  have hP4 := HP3.out.kept hk4 (fun h => h) (fun _ _ h => h)
  have hnp : ¬ penS p v3 g := by
    rintro (h | h)
    · have := HP3.out.1.lt; omega
    · have := HP3.out.2.lt g h; omega
  have hT := text_at w4 p v3 [1, 44] hP4 (by simp) (.slice (some ⟨g, 0, none⟩) 2 2) [120, 121] (cells_src [120, 121] hg (by decide) (by decide)) (fun w' hk => cells_src [120, 121] (hk.cells hg hnp) (by decide) (by decide)) (by decide)
  rw [pen_3] at hT
  have HT := hide hT
  have hk13 : Kept (penS p (.slice none 0 0)) w1 w4 := (penS_trans hk2 hm2 hk3).trans hk4 (fun _ _ h => h.elim)
  have hm13 : moved w1 (.slice none 0 0) v3 := hm2.trans hm3 hk2.size
  clear hT hP4 hnp hg hgs hk2 hk3 hm2 hm3 hk4
  go_wp2_with fail
  refine HT.out.mono ?_
  rintro e w5 ⟨v5, rfl, hP5, hk5, hm5⟩
  have hk15 := penS_trans hk13 hm13 hk5
  have hk05 : Kept (fun _ => False) w w5 := hk1.trans hk15 (fun i hi h => by
    rcases h with h | h
    · have := Hpp.out; omega
    · simp [Value.ownBlock] at h)
  have HP5 := hide hP5
  clear hP5 hk5 hm5 hk15 hk13 hm13
  go_wp2_with fail
  have hD := padded_at w5 p v5 _ HP5.out (by simp) 8 (by decide)
  rw [pen_4] at hD
  refine hD.mono ?_
  rintro e w6 ⟨v6, rfl, hs6, hk6⟩
  have HS6 := hide hs6
  clear hs6 hD
  go_wp2_with fail
  refine (new_at w6 v6 _ HS6.out (by simp)).mono ?_
  rintro e w7 ⟨s, v7, rfl, hs7, hk7, hsz⟩
  have HP7 := hide ((HP5.out.kept hk6 (fun h => h) (fun _ _ h => h)).kept hk7 (fun h => h) (fun _ _ h => h))
  have hsp : s ≠ p := by have := HP5.out.1.lt; have := hk6.size; omega
  have hk07 := (hk05.trans hk6 (fun _ _ h => h)).trans hk7 (fun _ _ h => h)
  have HS7 := hide hs7
  have hws : w.heap.size ≤ s := by have := hk05.size; have := hk6.size; omega
  clear hs7 hk6 hk7 hk05 hsz
  go_wp2_with fail
  refine (bytes_at w7 p v5 _ HP7.out (by simp)).mono ?_
  rintro e w8 ⟨v8, rfl, hs8, hk8⟩
  have HS8 := hide hs8
  have HSc8 := hide (HS7.out.kept hk8)
  have hk08 := hk07.trans hk8 (fun _ _ h => h)
  clear hs8 hk8 hk07
  go_wp2_with fail
  rw [run_strS HS8.out, show strN [1, 44, 0, 2, 120, 121] = ⟨#[1, 44, 0, 2, 120, 121]⟩ from rfl]
  go_wp2_with fail
  refine (left_at w8 s v7 _ 0 HSc8.out).mono ?_
  rintro e w9 ⟨rfl, rfl⟩
  go_wp2_with fail
  have hN := snum_at w8 s v7 _ 0 HSc8.out (by simp) 2
  rw [sc_1] at hN
  refine hN.mono ?_
  rintro e w9 ⟨v9, rfl, hs9, hk9⟩
  have HS9 := hide hs9
  have hk09 : Kept (fun _ => False) w w9 := hk08.trans hk9 (fun i hi h => by omega)
  clear hs9 hk9 hk08 hN
  go_wp2_with fail
  have hT2 := stext_at w9 s v9 _ 0 HS9.out (by simp) 2
  rw [sc_2] at hT2
  refine hT2.mono ?_
  rintro e w10 ⟨vr, v10, rfl, hsr, hs10, hk10⟩
  have HS10 := hide hs10
  have HSr := hide hsr
  have hk010 : Kept (fun _ => False) w w10 := hk09.trans hk10 (fun i hi h => by omega)
  clear hs10 hsr hk10 hk09 hT2
  go_wp2_with fail
  rw [run_strS HSr.out, show strN [120, 121] = ⟨#[120, 121]⟩ from rfl]
  go_wp2_with fail
  have hNo := noughts_at w10 s v10 _ 0 HS10.out (by simp)
  rw [sc_3] at hNo
  refine hNo.mono ?_
  rintro e w11 ⟨rfl, rfl⟩
  go_wp2_with fail
  refine (err_at w10 s v10 _ 0 HS10.out).mono ?_
  rintro e w11 ⟨rfl, rfl⟩
  go_wp2_with fail
  have hN3 := snum_at w10 s v10 _ 0 HS10.out (by simp) 3
  rw [sc_4] at hN3
  refine hN3.mono ?_
  rintro e w12 ⟨v12, rfl, hs12, hk12⟩
  have HS12 := hide hs12
  have hk012 : Kept (fun _ => False) w w12 := hk010.trans hk12 (fun i hi h => by omega)
  clear hs12 hk12 hk010 hN3
  go_wp2_with fail
  refine (err_at w12 s v12 _ 20 HS12.out).mono ?_
  rintro e w13 ⟨rfl, rfl⟩
  go_wp2_with fail
  refine (left_at w12 s v12 _ 20 HS12.out).mono ?_
  rintro e w13 ⟨rfl, rfl⟩
  go_wp2
  go_ret
  exact ⟨rfl, hk012⟩

end Go.Proofs.Yteffiglfeenokaa
