/-
  What the statements ask ahead of everything else.
-/
import Derived.Test.YtbbhchmdggfncaaJ34
import Derived.Test.YtbbhchmdggfncaaJ24
namespace Go.Proofs.Ytbbhchmdggfncaa
open Go.RowKit Go.Shelf
set_option linter.unusedSimpArgs false
set_option linter.unusedVariables false
set_option maxRecDepth 100000

theorem Rg.own {w0 w w' : World} {b n g : Nat} {l : Lg} {s : D.DS} {G : List (Nat × List Value × TypeId)} {L L' : List Value} {t : TypeId} (h : Rg w0 w b n l s ((g, L, t) :: G)) (hk : Kept (fun k => k = g) w w') (hb : Blk w' g L' t) (hne : ∀ x ∈ G, x.1 ≠ g) (hg : w0.heap.size ≤ g) : Rg w0 w' b n l s ((g, L', t) :: G) := by
  obtain ⟨F, hd, hF, hFb, hG⟩ := h.dev
  have hFg : ¬ F g := hG (g, L, t) (by simp)
  have hbg : g ≠ b := (h.blk (g, L, t) (by simp)).2
  refine ⟨⟨F, hd.kept hk (fun k hf hk => hFg (hk ▸ hf)), hF, hFb, ?_⟩, hk.blk h.log (fun e => hbg e.symm), h.new, h.kept.trans hk (fun i hi e => by omega), ?_⟩
  · intro x hx
    rcases List.mem_cons.1 hx with rfl | hx
    · exact hFg
    · exact hG x (by simp [hx])
  · intro x hx
    rcases List.mem_cons.1 hx with rfl | hx
    · exact ⟨hb, hbg⟩
    · exact ⟨hk.blk (h.blk x (by simp [hx])).1 (hne x hx), (h.blk x (by simp [hx])).2⟩
theorem seg_len : (segB 2 3 8 firL 0).length = 512 := by kernel_rfl
theorem built37F : Try.prog.built 37 [(0, .int .i64 3), (1, .int .i64 1), (2, .int .i64 1)] = some #[.int .i64 3, .int .i64 1, .int .i64 1, .slice none 0 0] := by kernel_rfl
theorem r_build37F {ρ : Operand → Value} {w : World} {dst : Option Tmp} {ty : TypeId} {pos : String} {aft : Array Edge} {gd : Option (Nat × Bool)} {x0 x1 x2 : Operand} (h0 : ρ x0 = .int .i64 3) (h1 : ρ x1 = .int .i64 1) (h2 : ρ x2 = .int .i64 1) :
    (execOp ρ ⟨dst, .build 37 #[(0, x0), (1, x1), (2, x2)], ty, pos, aft, gd⟩).run Try.prog w = .ok (.value (.agg #[.int .i64 3, .int .i64 1, .int .i64 1, .slice none 0 0])) w := by
  have hr := run_build (P := Try.prog) w 37 #[(0, .int .i64 3), (1, .int .i64 1), (2, .int .i64 1)] _ (by simpa using built37F)
  simp [execOp, h0, h1, h2, hr]
theorem built56F : Try.prog.built 56 [(0, .int .i64 0), (1, .int .i64 9)] = some #[.int .i64 0, .int .i64 9] := by kernel_rfl
theorem r_build56F {ρ : Operand → Value} {w : World} {dst : Option Tmp} {ty : TypeId} {pos : String} {aft : Array Edge} {gd : Option (Nat × Bool)} {x0 x1 : Operand} (h0 : ρ x0 = .int .i64 0) (h1 : ρ x1 = .int .i64 9) :
    (execOp ρ ⟨dst, .build 56 #[(0, x0), (1, x1)], ty, pos, aft, gd⟩).run Try.prog w = .ok (.value (.agg #[.int .i64 0, .int .i64 9])) w := by
  have hr := run_build (P := Try.prog) w 56 #[(0, .int .i64 0), (1, .int .i64 9)] _ (by simpa using built56F)
  simp [execOp, h0, h1, hr]
section
variable {P : Program} {ops : Array Oper} {Q : Exit → Act → World → Prop} {a : Act} {w : World} {rest : List Oper} {d : Nat} {ty : TypeId} {pos : String} {aft : Array Edge} {x y : Operand} {ts : Array TypeId}
theorem aw_yc1 {g : Nat} {lb : Array Value} {vy : Value} {R : Ending → World → Prop} (hx : a.eval x = .func (.func g) #[] lb) (hy : a.eval y = vy) (hc : YC P (.func (.func g) #[] lb) #[vy] w R)
    (h : ∀ e w', R e w' → ∃ v, e = .returned v ∧ wpList P ops Q rest (a.put (some d) v) w') :
    wpList P ops Q (⟨some d, .call { callee := .value x, args := #[y], argTypes := ts }, ty, pos, aft, none⟩ :: rest) a w := by
  rcases hc with ⟨gf, lb', he, eg, hc⟩ | ⟨l, he, hc⟩
  · cases he
    refine wpList_plain rfl fun K hK => ?_
    unfold Oper.wp
    rw [run_cF1 a.eval hx hy eg]
    refine hc.mono ?_
    rintro e w' hR
    obtain ⟨v, rfl, h2⟩ := h e w' hR
    exact hK _ _ h2
  · cases he
theorem stop_val1 {dst : Option Tmp} {t : Nat} {aq : Array Operand} (h : Hid (wpList P ops Q (⟨dst, .call { callee := .value (.tmp t), args := aq, argTypes := ts }, ty, pos, aft, none⟩ :: rest) a w)) : wpList P ops Q (⟨dst, .call { callee := .value (.tmp t), args := aq, argTypes := ts }, ty, pos, aft, none⟩ :: rest) a w := h.out
end

set_option maxHeartbeats 8000000 in
theorem rgfirst_at (w : World) : Calls Try.prog 4 #[] w fun e w' => e = .returned (.bool true) ∧ Kept (fun _ => False) w w' := by
  obtain ⟨i37, hi37, hz37, hs37, hb37⟩ := info_parts Try.info37
  have Hi37 := hide hi37
  have Hz37 := hide hz37
  obtain ⟨i3, hi3, hz3, hs3, hb3⟩ := info_parts Try.info3
  have Hi3 := hide hi3
  have Hz3 := hide hz3
  have Hs3 := hide hs3
  clear hi37 hz37 hs37 hb37 hi3 hz3 hs3 hb3
  go_enter Try.func4, Try.ntmps4
  go_wp2_with fail
  refine (D.Dv.new w w 40 (by first | decide | (dsimp only; decide)) (by first | decide | (dsimp only; decide)) (Kept.refl _ _) [] (by simp)).mono ?_
  rintro e w1 ⟨db, rfl, h1⟩
  have D1 := hide h1
  clear h1
  go_wp2_with fail
  obtain ⟨F, hd, hF, -⟩ := D1.out.dev
  refine (rgnew_at w1 db 40 _ F hd 2 3 8 (by first | decide | (dsimp only; decide)) (by first | decide | (dsimp only; decide)) (by first | decide | (dsimp only; decide))).mono ?_
  rintro e w2 ⟨b, rfl, hl2, hk2, hb2⟩
  have R2 : Hid (Rg w w2 b 40 ⟨db, 2, 3, 8, 0⟩ firS0 []) := hide ⟨⟨F, hd.kept hk2 (fun _ _ h => h), hF, fun hf => by have := hd.lt b hf; omega, by simp⟩, hl2, Nat.le_trans D1.out.kept.size hb2, D1.out.kept.trans hk2 (fun _ _ h => h), by simp⟩
  clear hd hF hl2 hk2 hb2 D1
  go_wp2_with fail
  obtain ⟨F, hd, hb, -, hst⟩ := R2.out.open
  refine (rgstart_at w2 b 40 ⟨db, 2, 3, 8, 0⟩ firS0 F R2.out.log hd hb (by first | decide | (dsimp only; decide)) (by first | decide | (dsimp only; decide)) (by first | decide | (dsimp only; decide)) 0 (by first | decide | (dsimp only; decide)) 1 (by first | decide | (dsimp only; decide)) 1 1 fir_right.1 _ rfl (by rw [fir_len.1]; decide) (by rw [fir_len.1]; decide) 1 (by rw [fir_len.1]; rfl) (by first | decide | (dsimp only; decide)) 0 rfl 2 (by first | decide | (dsimp only; decide) | simp) firH rfl (by rw [fir_calls.2.2.2.2.1]; decide) (by first | decide | (dsimp only; decide)) 0 fir_e0).mono ?_
  rintro e w3 ⟨rfl, h3⟩
  have R3 : Hid (Rg w w3 b 40 ⟨db, 2, 3, 8, 1⟩ firS1 []) := hide (hst _ _ _ h3)
  clear hd hb hst h3 R2
  go_wp2_with (first
    | ((with_reducible refine wpList_run rfl (r_build37F rfl rfl rfl) ?_))
    | ((with_reducible refine aw_alloc (dst := some 6) Hi37.out Hz37.out ?_); intro w4 hb4 hk4 hz4; have Yz4 := hide hz4; clear hz4)
    | ((with_reducible refine aw_store (x := .tmp 6) (M := [.int .i64 3, .int .i64 1, .int .i64 1, .slice none 0 0]) Try.agg37 rfl rfl rfl (by simp [Value.oneCell']) hb4 (by simp [Value.cells]) ?_); intro w5 hb5 hk5 hz5; have Yz5 := hide hz5; clear hz5; rw [put_whole _ _ (by simp [Value.cells])] at hb5)
    | (with_reducible refine aw_load (x := .tmp 6) (M := [.int .i64 3, .int .i64 1, .int .i64 1, .slice none 0 0]) Try.agg37 rfl hb5 (by simp) rfl ?_)
    | fail)
  have hkk : Kept (fun _ => False) w3 w5 := hk4.trans hk5 (fun i hi h => by omega)
  have R5 : Hid (Rg w w5 b 40 ⟨db, 2, 3, 8, 1⟩ firS1 []) := hide (R3.out.same hkk)
  obtain ⟨c6, hc6⟩ : ∃ x, x = w3.heap.size := ⟨_, rfl⟩
  rw [← hc6]
  clear hb4 hk4 hb5 hk5 hkk R3 hc6 Yz4 Yz5
  obtain ⟨F, hd, hb, -, hst⟩ := R5.out.open
  refine (rgadd_in w5 b 40 ⟨db, 2, 3, 8, 1⟩ firS1 F R5.out.log hd hb (by first | decide | (dsimp only; decide)) (by first | decide | (dsimp only; decide)) (by first | decide | (dsimp only; decide)) (by first | decide | (dsimp only; decide)) 1 0 (by first | decide | (dsimp only; decide)) ⟨3, 1, 1, ⟨none, 0, 0⟩, []⟩ (fun w' _ => WsAt.nil w') _ rfl (by rw [show (putRN (Rv.rc ⟨3, 1, 1, ⟨none, 0, 0⟩, []⟩)).length = 15 from fir_len.2.1]; decide) (by rw [show (putRN (Rv.rc ⟨3, 1, 1, ⟨none, 0, 0⟩, []⟩)).length = 15 from fir_len.2.1]; decide) 1 (by rw [show (putRN (Rv.rc ⟨3, 1, 1, ⟨none, 0, 0⟩, []⟩)).length = 15 from fir_len.2.1]; rfl) fir_room (by first | decide | (dsimp only; decide)) 3 (by first | decide | (dsimp only; decide) | simp) firC rfl (by rw [fir_calls.2.2.2.1]; decide) (by rw [fir_calls.2.2.2.2.2]; decide) 0 fir_e1).mono ?_
  rintro e w6 ⟨rfl, h6⟩
  have R6 : Hid (Rg w w6 b 40 ⟨db, 2, 3, 8, 2⟩ firS2 []) := hide (hst _ _ _ h6)
  clear hd hb hst h6 R5
  go_wp2_with fail
  obtain ⟨F, hd, hst⟩ := R6.out.devStep
  refine (D.flush_at w6 db 40 firS2 F hd (by rw [fir_calls.2.2.1]; decide)).mono ?_
  rintro e w7 ⟨rfl, h7⟩
  rw [fir_e2]
  have R7 : Hid (Rg w w7 b 40 ⟨db, 2, 3, 8, 2⟩ firS3 []) := hide (hst _ _ h7)
  clear hd hst h7 R6
  go_wp2_with fail
  obtain ⟨F, hd, hb, -, -⟩ := R7.out.open
  refine (rgopen_at w7 b 40 ⟨db, 2, 3, 8, 2⟩ firS3 F R7.out.log hd hb (by first | decide | (dsimp only; decide)) (by first | decide | (dsimp only; decide)) (by first | decide | (dsimp only; decide)) fir_off firL fir_64 rfl fir_lt fir_view 1 (by first | decide | (dsimp only; decide)) _ fir_open).mono ?_
  rintro e w8 ⟨v, es, rfl, ho, hm, hx, en, hen, -, hl8, hk8⟩
  obtain rfl : en = 2 := by have : (2 : Int) = en := hen; omega
  have R8 : Hid (Rg w w8 b 40 ⟨db, 2, 3, 8, 2⟩ firS3 []) := hide (R7.out.set hk8 hl8 rfl)
  obtain ⟨x0, x1, rfl, -, hx1⟩ : ∃ x0 x1, es = [x0, x1] ∧ x0.en = ⟨0, 1, 1, ⟨1, 1, 1, []⟩⟩ ∧ x1.en = ⟨1, 1, 1, ⟨3, 1, 1, []⟩⟩ := by
    match es, hm with
    | [a, c], hm => simp at hm; exact ⟨a, c, rfl, hm.1, hm.2⟩
    | [], hm => simp at hm
    | [a], hm => simp at hm
    | a :: c :: d :: l, hm => simp at hm
  obtain ⟨g, cap, C, rfl, hg, hgge⟩ : ∃ g cap C, v = .slice (some ⟨g, 0, none⟩) 2 cap ∧ Blk w8 g ([x0, x1].flatMap evC ++ C) 58 ∧ w7.heap.size ≤ g := by
    rcases ownsRow_blk ho.1 with ⟨_, h0, _⟩ | ⟨g, cap, C, e, hb, _, _, _⟩
    · simp at h0
    · exact ⟨g, cap, C, e, hb, hx g (.inl (by rw [e]; rfl))⟩
  have hl1 : x1.l = 1 := congrArg En.lsn hx1
  have hn1 : x1.y.nm = 1 := congrArg (fun x => x.rc.num) hx1
  obtain ⟨L, hL⟩ : ∃ L, L = [x0, x1].flatMap evC ++ C := ⟨_, rfl⟩
  have hL7 : L[7]? = some (.int .i64 1) := by rw [hL, ← hl1]; rfl
  have hL12 : L[12]? = some (.int .i64 1) := by rw [hL, ← hn1]; rfl
  rw [← hL] at hg
  have RG : Hid (Rg w w8 b 40 ⟨db, 2, 3, 8, 2⟩ firS3 [(g, L, 58)]) := hide (by
    have h := R8.out
    obtain ⟨F, hd, hF, hFb, -⟩ := R7.out.dev
    refine ⟨⟨F, hd.kept hk8 (fun k hf hk => hFb (hk ▸ hf)), hF, hFb, ?_⟩, h.log, h.new, h.kept, ?_⟩
    · intro x hx hf
      obtain rfl : x = _ := List.mem_singleton.1 hx
      have := hd.lt _ hf
      simp at this; omega
    · intro x hx
      obtain rfl : x = _ := List.mem_singleton.1 hx
      exact ⟨hg, fun he => by have := R7.out.log.lt; simp at he; omega⟩)
  have HL7 := hide hL7
  have HL12 := hide hL12
  clear hd hb ho hm hx hen hl8 hk8 hx1 hg hgge hl1 hn1 hL hL7 hL12 R7 R8
  go_wp2_with (first
    | ((with_reducible refine aw_alloc (dst := some 11) Hi3.out Hz3.out ?_); intro w9 hb9 hk9 hz9; have Yz9 := hide hz9; clear hz9)
    | (with_reducible refine stop_store 3 ?_)
    | fail)
  refine hide ?_
  refine aw_store1 (v := .int .i64 0) (off := 0) Hi3.out Hs3.out rfl rfl rfl rfl hb9 (by simp [Value.cells]) ?_
  intro w10 hb10 hk10 hz10
  have hkk : Kept (fun _ => False) w8 w10 := hk9.trans hk10 (fun i hi h => by omega)
  obtain ⟨bn, hbn⟩ : ∃ x, x = w8.heap.size := ⟨_, rfl⟩
  rw [← hbn] at hb10 ⊢
  have R10 : Hid (Rg w w10 b 40 ⟨db, 2, 3, 8, 2⟩ firS3 [(bn, [.int .i64 0], 3), (g, L, 58)]) := hide ((RG.out.same hkk).more bn _ _ hb10 ⟨w8, RG.out, hkk, by omega⟩)
  have HBn : Hid (w.heap.size ≤ bn ∧ g ≠ bn) := hide (by
    have h1 := RG.out.kept.size
    have h2 := (RG.out.blk (g, L, 58) (by simp)).1.lt
    simp only [] at h2
    omega)
  clear hb9 hk9 hb10 hk10 hz10 hkk hbn RG Yz9
  try simp only [put_lit, put_none, List.set_cons_succ, List.set_cons_zero]
  go_wp2_with fail
  obtain ⟨F, hd, hb, -, -⟩ := R10.out.open
  refine (rgseg_ok w10 b 40 ⟨db, 2, 3, 8, 2⟩ firS3 F R10.out.log hd (by first | decide | (dsimp only; decide)) (by first | decide | (dsimp only; decide)) (by first | decide | (dsimp only; decide)) 0 (by first | decide | (dsimp only; decide)) 0 (by first | decide | (dsimp only; decide) | simp) 2 (by first | decide | (dsimp only; decide) | simp) fir_off).mono ?_
  rintro e w11 ⟨sg, rfl, hs11, hk11, hsge⟩
  have R11 : Hid (Rg w w11 b 40 ⟨db, 2, 3, 8, 2⟩ firS3 [(bn, [.int .i64 0], 3), (g, L, 58)]) := hide (R10.out.same hk11)
  have hsrc : Src w11 (.slice (some ⟨sg, 0, none⟩) (64 * 8) 512) (segB 2 3 8 firL 0) := by
    rw [fir_view, part_many fir_64] at hs11
    exact hs11.src (B := segB 2 3 8 firL 0) (List.take_of_length_le (by rw [BV_length]; exact Nat.le_refl _)) (fun x hx => by
      obtain ⟨y, hy, hxy⟩ := List.mem_flatten.1 hx
      exact fir_lt y (List.mem_of_mem_drop (List.mem_of_mem_take hy)) x hxy) (by first | decide | (dsimp only; decide))
  have HSrc := hide hsrc
  clear hd hb hs11 hk11 hsge hsrc R10
  go_wp2_with (first
    | ((with_reducible refine wpList_run rfl (r_build56F rfl rfl) ?_))
    | fail)
  refine (rgwalk_at w11 (some ⟨sg, 0, none⟩) 512 8 (segB 2 3 8 firL 0) 0 0 9 HSrc.out (by first | decide | (dsimp only; decide)) (by first | decide | (dsimp only; decide))).mono ?_
  rintro e w12 ⟨b1, b2, b3, b4, vs, rfl, hok, hsv, hk12, g1, g2, g3, g4⟩
  have R12 : Hid (Rg w w12 b 40 ⟨db, 2, 3, 8, 2⟩ firS3 [(bn, [.int .i64 0], 3), (g, L, 58)]) := hide (R11.out.same hk12)
  have hbn12 : Blk w12 bn [.int .i64 0] 3 := (R12.out.blk (bn, [.int .i64 0], 3) (by simp)).1
  have hbn11 : bn < w11.heap.size := (R11.out.blk (bn, [.int .i64 0], 3) (by simp)).1.lt
  have hX : ¬ enX b1 b2 b3 b4 vs bn := by
    rintro (h | h | h | h | ⟨off, m, c, h⟩)
    · omega
    · omega
    · omega
    · omega
    · subst h
      obtain ⟨bo, cap, e, h1, h2, h3, h4⟩ := hsv
      cases e
      obtain ⟨sb, so, e2, hc⟩ := h3 (by rw [seg_len]; decide)
      cases e2
      obtain ⟨u, hu⟩ : ∃ u, (BV (segB 2 3 8 firL 0))[1]? = some u := ⟨_, List.getElem?_eq_getElem (by rw [BV_length, seg_len]; decide)⟩
      have q := hc 1 u hu
      rw [hbn12.cell] at q
      simp at q
  have HYc := hide (firN_at hok ⟨_, _, rfl⟩ hX (Kept.refl _ _) hbn12 (by show (walkB 8 9 (segB 2 3 8 firL 0) 9 0 0 0).length ≤ 1000; rw [fir_walk]; decide))
  clear hok hsv hk12 g1 g2 g3 g4 hbn12 hbn11 hX R11 HSrc
  try simp only [put_lit, put_none, List.set_cons_succ, List.set_cons_zero]
  go_wp2_with (with_reducible refine stop_val1 ?_)
  refine hide ?_
  try simp only [put_lit, put_none, List.set_cons_succ, List.set_cons_zero]
  refine aw_yc1 (vy := .func (.func 17) #[] #[.pointer (some ⟨bn, 0, none⟩)]) rfl rfl HYc.out ?_
  rintro e w13 ⟨⟨u, rfl⟩, hk13, hb13⟩
  refine ⟨u, rfl, ?_⟩
  have R13 : Hid (Rg w w13 b 40 ⟨db, 2, 3, 8, 2⟩ firS3 [(bn, [.int .i64 2], 3), (g, L, 58)]) := hide (R12.out.own hk13 (by
    have h : (walkB 8 9 (segB 2 3 8 firL 0) (8 + 1) ((0 : Int).toNat % 8) 0 0).length = 2 := fir_walk
    rw [h] at hb13
    exact hb13) (by intro x hx; obtain rfl : x = _ := List.mem_singleton.1 hx; exact HBn.out.2) HBn.out.1)
  clear hk13 hb13 R12 HYc
  have c7 : w13.cell? ⟨g, 7, none⟩ = some (.int .i64 1) := by rw [(R13.out.blk (g, L, 58) (by simp)).1.cell]; exact HL7.out
  have c12 : w13.cell? ⟨g, 12, none⟩ = some (.int .i64 1) := by rw [(R13.out.blk (g, L, 58) (by simp)).1.cell]; exact HL12.out
  have cn : w13.cell? ⟨bn, 0, none⟩ = some (.int .i64 2) := (R13.out.blk (bn, [.int .i64 2], 3) (by simp)).1.cell 0
  try simp only [put_lit, put_none, List.set_cons_succ, List.set_cons_zero]
  go_wp2_with fail
  refine (rgend_at w13 b ⟨db, 2, 3, 8, 2⟩ R13.out.log).mono ?_
  rintro e w' ⟨rfl, rfl⟩
  go_wp2_with fail
  clear c7 c12 cn
  obtain ⟨F, hd, hb, -, hst⟩ := R13.out.open
  refine (rgTurn_go w13 b 40 ⟨db, 2, 3, 8, 2⟩ firS3 F R13.out.log hd hb (by first | decide | (dsimp only; decide) | simp) (by first | decide | (dsimp only; decide) | simp) (by first | decide | (dsimp only; decide) | simp) (by first | decide | (dsimp only; decide) | simp) 1 0 (by first | decide | (dsimp only; decide) | simp) 1 2 fir_right.2.2 (by first | decide | (dsimp only; decide) | simp) (by first | decide | (dsimp only; decide) | simp) (by first | decide | (dsimp only; decide) | simp) _ rfl (by rw [fir_len.2.2]; decide) (by rw [fir_len.2.2]; decide) 1 (by rw [fir_len.2.2]; rfl) (by first | decide | (dsimp only; decide) | simp) 4 (by first | decide | (dsimp only; decide) | simp) _ rfl 0 (by first | decide | (dsimp only; decide) | simp) 10 (by first | decide | (dsimp only; decide) | simp) _ rfl (by rw [fir_calls.1]; decide) (by rw [fir_calls.2.1]; decide) 0 (fir_turn _)).mono ?_
  rintro e w14 ⟨rfl, h14⟩
  have R14 : Hid (Rg w w14 b 40 ⟨db, 2, 3, 8, 9⟩ _ [(bn, [.int .i64 2], 3), (g, L, 58)]) := hide (hst _ _ _ h14)
  clear hd hb hst h14 R13
  go_wp2_with fail
  refine (rgfresh_at w14 b ⟨db, 2, 3, 8, 9⟩ R14.out.log (by first | decide | (dsimp only; decide) | simp) (by first | decide | (dsimp only; decide) | simp) true (by first | decide | (dsimp only; decide) | simp)).mono ?_
  rintro e w15 ⟨rfl, hk15⟩
  have R15 := hide (R14.out.same hk15)
  clear hk15 R14
  go_wp2_with fail
  refine (rgend_at w15 b ⟨db, 2, 3, 8, 9⟩ R15.out.log).mono ?_
  rintro e w' ⟨rfl, rfl⟩
  go_wp2
  go_ret
  exact ⟨rfl, R15.out.kept⟩
end Go.Proofs.Ytbbhchmdggfncaa
