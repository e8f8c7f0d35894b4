/-
  The walk of PackWrites: it answers true, and touches nothing that was there.
-/
import Derived.Test.YteffiglfeenokaaBackA
import Derived.Test.YteffiglfeenokaaPRef
namespace Go.Proofs.Yteffiglfeenokaa
open Go.RowKit Go.Shelf
set_option linter.unusedSimpArgs false
set_option linter.unusedVariables false

set_option maxRecDepth 100000 in
set_option maxHeartbeats 8000000 in
theorem writes_any (w : World) (ao : Option Addr) (len cap : Nat) (L : List OpV) (hL : L.length = len) (hlm : len ≤ 9223372036854775807) (hops : OpsAt w ao L) (pad : Int) :
    Calls Try.prog 3 #[.slice ao len cap, .int .i64 pad] w fun e w' => e = .returned (.bool true) ∧ Kept (fun _ => False) w w' := by
  obtain ⟨i29, hi29, hz29, hs29, hb29⟩ := info_parts Try.info29
  have Hi29 := hide hi29
  have Hz29 := hide hz29
  have HO := hide hops
  have HL := hide hL
  clear hi29 hz29 hs29 hb29 hops hL
  go_enter Try.func3, Try.ntmps3
  go_wp2_with fail
  refine (first_any w).mono ?_
  rintro e w1 ⟨rfl, hk1⟩
  go_wp2_with (with_reducible refine stop_build 27 ?_)
  refine hide ?_
  refine wpList_run rfl r_build27 ?_
  refine aw_box (v := .agg #[.slice none 0 0]) rfl ?_
  intro w2 hb1 hk2 hz2
  have HB0 : Hid (Bk w w2 w1.heap.size (.slice none 0 0) (.slice none 0 0) [] []) := hide ⟨hk1.size, hk1.trans hk2 (fun _ _ h => h), pen_new hb1, fun k h => by simp [Value.ownBlock] at h, World.ownsRow_nil _ _ _ _, by simp⟩
  generalize w1.heap.size = p at *
  clear hk1 hk2 hz2 hb1
  go_wp2
  go_loopw [7, 17] (fun sv i wr => ∃ (k : Nat) (u : Value) (A : List Nat), k ≤ len ∧ k ≤ 60 ∧ sv = .string (strN A) ∧ i = .int .i64 k ∧ Hid (Bk w wr p u (.slice none 0 0) A []) ∧ A.length ≤ 402 * k) (fun _ i _ => len - (intOf i).toNat)
  case atStart => exact ⟨0, _, [], by omega, by omega, rfl, rfl, HB0, by simp⟩
  case round =>
    obtain ⟨k, u, A, hk, hk60, rfl, rfl, HB, hAk⟩ := hrel
    by_cases hlt : k < len
    · obtain ⟨sb, so, e, hcell, hop⟩ := HO.out k (by rw [HL.out]; exact hlt)
      subst e
      obtain ⟨bo, bc, e⟩ := hop.slice
      obtain ⟨⟨kd, n, m, vb, B⟩, ho⟩ : ∃ o, L[k]'(by rw [HL.out]; exact hlt) = o := ⟨_, rfl⟩
      rw [ho] at hcell hop e
      simp only at e
      subst e
      have H1 := hide hop.one
      have HOp := hide hop
      have Hcr := hide (HB.out.kept.cells hcell (fun h => h))
      have hbk := hop.2.1
      have hbn := hop.2.2.1
      have hbm := hop.2.2.2.1
      have hbB := hop.2.2.2.2
      simp only at hbk hbn hbm hbB
      clear hcell ho hop
      by_cases hk59 : k < 60
      · by_cases hB4 : B.length ≤ 400
        · by_cases hev : kd.tmod 2 = 0
          · have HN := hide (fun W h => number_at W p u A h (by omega) n m hbn.2)
            by_cases hf : fitsN n m = true
            · obtain ⟨x, y, e1, e2, hy1, hy8, hx⟩ := fits_of hf
              subst e1
              subst e2
              rw [hf] at HN
              have HE : Hid (penNum A x y = A ++ numB x y) := hide (by unfold penNum; rw [hf]; rfl)
              rw [HE.out] at HN
              have HFi := hide (fun W => fits_at W x y hbn.2)
              rw [hf] at HFi
              clear hf HE
              go_wp2_with (first
                | (with_reducible refine aw_elem (o := ⟨kd, x, y, .slice bo B.length bc, B⟩) rfl Hcr.out ?_)
                | ((with_reducible refine aw_alloc (dst := some 9) Hi29.out Hz29.out ?_); intro w6 hw6 hk6 hz6; have Hz6 := hide hz6; clear hz6)
                | ((with_reducible refine aw_store (x := .tmp 9) (M := OpV.cells ⟨kd, x, y, .slice bo B.length bc, B⟩) Try.agg29 rfl rfl (OpV.cells_length _) H1.out hw6 (by simp [Value.cells]) ?_); intro w7 hw7 hk7 hz7; rw [put_whole _ _ (by simp [Value.cells, OpV.cells])] at hw7; have Hz7 := hide hz7; clear hz7; have c0 : w7.cell? ⟨wr.heap.size, 0, none⟩ = some (.int .i64 kd) := hw7.cell 0; have c1 : w7.cell? ⟨wr.heap.size, 1, none⟩ = some (.int .i64 x) := hw7.cell 1; have c2 : w7.cell? ⟨wr.heap.size, 2, none⟩ = some (.int .i64 y) := hw7.cell 2; have c3 : w7.cell? ⟨wr.heap.size, 3, none⟩ = some (.slice bo B.length bc) := hw7.cell 3))
              have hkk : Kept (fun _ => False) wr w7 := hk6.trans hk7 (fun i hi h => by omega)
              have HB7 := hide (HB.out.same hkk)
              have HW7 := hide hw7
              refine (HFi.out w7).mono ?_
              rintro e w8 ⟨rfl, rfl⟩
              go_wp2_with fail
              refine (HN.out w7 HB7.out.pen).mono ?_
              rintro e w8 ⟨u8, rfl, hP8, hk8, hm8⟩
              have hw8 := HB7.out.var hk8 HW7.out
              have HB8 := hide (HB7.out.penned hP8 hk8 hm8)
              clear c0 c1 c2 c3
              have c1 : w8.cell? ⟨wr.heap.size, 1, none⟩ = some (.int .i64 x) := hw8.cell 1
              have c2 : w8.cell? ⟨wr.heap.size, 2, none⟩ = some (.int .i64 y) := hw8.cell 2
              clear hw6 hw7 hw8 hk6 hk7 hP8 hk8 hm8 hkk H1 Hcr
              go_wp2_with fail
              refine (number_nil w8 x y).mono ?_
              rintro e w9 ⟨rfl, rfl⟩
              go_wp2_with fail
              refine (rnum_at y hy8 w8 x (by omega)).mono ?_
              rintro e w9 ⟨rfl, hk9⟩
              have HB9 := hide (HB8.out.same hk9)
              clear hk9 c1 c2
              go_wp2_with (with_reducible refine stop_bin .add ?_)
              refine hide ?_
              refine wpList_run rfl (r_add9 (A := A) (B := numB x y) (by rw [numB_length]; omega) rfl rfl) ?_
              have hlen : (A ++ numB x y).length ≤ 402 * (k + 1) := by rw [List.length_append, numB_length]; omega
              generalize A ++ numB x y = C at *
              go_wp2
              go_roundw
              case rel => exact ⟨k + 1, _, C, by omega, by omega, rfl, by go_num, HB9, hlen⟩
              case measure => simp [intOf]; omega
            · have hf' : fitsN n m = false := by simpa using hf
              rw [hf'] at HN
              have HE : Hid (penNum A n m = A) := hide (by unfold penNum; rw [hf']; rfl)
              rw [HE.out] at HN
              have HFi := hide (fun W => fits_at W n m hbn.2)
              rw [hf'] at HFi
              clear hf hf' HE
              go_wp2_with (first
                | (with_reducible refine aw_elem (o := ⟨kd, n, m, .slice bo B.length bc, B⟩) rfl Hcr.out ?_)
                | ((with_reducible refine aw_alloc (dst := some 9) Hi29.out Hz29.out ?_); intro w6 hw6 hk6 hz6; have Hz6 := hide hz6; clear hz6)
                | ((with_reducible refine aw_store (x := .tmp 9) (M := OpV.cells ⟨kd, n, m, .slice bo B.length bc, B⟩) Try.agg29 rfl rfl (OpV.cells_length _) H1.out hw6 (by simp [Value.cells]) ?_); intro w7 hw7 hk7 hz7; rw [put_whole _ _ (by simp [Value.cells, OpV.cells])] at hw7; have Hz7 := hide hz7; clear hz7; have c0 : w7.cell? ⟨wr.heap.size, 0, none⟩ = some (.int .i64 kd) := hw7.cell 0; have c1 : w7.cell? ⟨wr.heap.size, 1, none⟩ = some (.int .i64 n) := hw7.cell 1; have c2 : w7.cell? ⟨wr.heap.size, 2, none⟩ = some (.int .i64 m) := hw7.cell 2; have c3 : w7.cell? ⟨wr.heap.size, 3, none⟩ = some (.slice bo B.length bc) := hw7.cell 3))
              have hkk : Kept (fun _ => False) wr w7 := hk6.trans hk7 (fun i hi h => by omega)
              have HB7 := hide (HB.out.same hkk)
              have HW7 := hide hw7
              refine (HFi.out w7).mono ?_
              rintro e w8 ⟨rfl, rfl⟩
              go_wp2_with fail
              refine (HN.out w7 HB7.out.pen).mono ?_
              rintro e w8 ⟨u8, rfl, hP8, hk8, hm8⟩
              have hw8 := HB7.out.var hk8 HW7.out
              have HB8 := hide (HB7.out.penned hP8 hk8 hm8)
              clear c0 c1 c2 c3
              have c1 : w8.cell? ⟨wr.heap.size, 1, none⟩ = some (.int .i64 n) := hw8.cell 1
              have c2 : w8.cell? ⟨wr.heap.size, 2, none⟩ = some (.int .i64 m) := hw8.cell 2
              clear hw6 hw7 hw8 hk6 hk7 hP8 hk8 hm8 hkk H1 Hcr
              go_wp2_with fail
              refine (number_nil w8 n m).mono ?_
              rintro e w9 ⟨rfl, rfl⟩
              go_wp2
              go_roundw
              case rel => exact ⟨k + 1, _, A, by omega, by omega, rfl, by go_num, HB8, by omega⟩
              case measure => simp [intOf]; omega
          · have hT : Hid (∀ W, Bk w W p u (.slice none 0 0) A [] → Calls Try.prog 11 #[.pointer (some ⟨p, 0, none⟩), .slice bo B.length bc] W fun e w' => ∃ v', e = .returned (.bool true) ∧ PenAt w' p v' (A ++ textB B) ∧ Kept (penS p u) W w' ∧ moved W u v') := hide (fun W h =>
              text_at W p u A h.pen (by omega) _ B (HOp.out.1.kept h.kept) (fun w' hk => HOp.out.1.kept (h.penned_kept hk)) (by omega))
            go_wp2_with (first
              | (with_reducible refine aw_elem (o := ⟨kd, n, m, .slice bo B.length bc, B⟩) rfl Hcr.out ?_)
              | ((with_reducible refine aw_alloc (dst := some 9) Hi29.out Hz29.out ?_); intro w6 hw6 hk6 hz6; have Hz6 := hide hz6; clear hz6)
              | ((with_reducible refine aw_store (x := .tmp 9) (M := OpV.cells ⟨kd, n, m, .slice bo B.length bc, B⟩) Try.agg29 rfl rfl (OpV.cells_length _) H1.out hw6 (by simp [Value.cells]) ?_); intro w7 hw7 hk7 hz7; rw [put_whole _ _ (by simp [Value.cells, OpV.cells])] at hw7; have Hz7 := hide hz7; clear hz7; have c0 : w7.cell? ⟨wr.heap.size, 0, none⟩ = some (.int .i64 kd) := hw7.cell 0; have c1 : w7.cell? ⟨wr.heap.size, 1, none⟩ = some (.int .i64 n) := hw7.cell 1; have c2 : w7.cell? ⟨wr.heap.size, 2, none⟩ = some (.int .i64 m) := hw7.cell 2; have c3 : w7.cell? ⟨wr.heap.size, 3, none⟩ = some (.slice bo B.length bc) := hw7.cell 3))
            have hkk : Kept (fun _ => False) wr w7 := hk6.trans hk7 (fun i hi h => by omega)
            have HB7 := hide (HB.out.same hkk)
            have HW7 := hide hw7
            refine (hT.out w7 HB7.out).mono ?_
            rintro e w8 ⟨u8, rfl, hP8, hk8, hm8⟩
            have hw8 := HB7.out.var hk8 HW7.out
            have HB8 := hide (HB7.out.penned hP8 hk8 hm8)
            clear c0 c1 c2 c3
            have c3 : w8.cell? ⟨wr.heap.size, 3, none⟩ = some (.slice bo B.length bc) := hw8.cell 3
            clear hw6 hw7 hw8 hk6 hk7 hP8 hk8 hm8 hkk H1 Hcr
            go_wp2_with fail
            refine (text_nil w8 _).mono ?_
            rintro e w9 ⟨rfl, rfl⟩
            go_wp2_with fail
            refine (rtext_at w8 _ B (HOp.out.1.kept HB8.out.kept) (by omega)).mono ?_
            rintro e w9 ⟨rfl, hk9⟩
            have HB9 := hide (HB8.out.same hk9)
            clear hk9 c3
            have hlen : (A ++ textB B).length ≤ 402 * (k + 1) := by rw [List.length_append, textB_length]; omega
            go_wp2_with (with_reducible refine stop_bin .add ?_)
            refine hide ?_
            refine wpList_run rfl (r_add9 (A := A) (B := textB B) (by rw [← List.length_append]; omega) rfl rfl) ?_
            generalize A ++ textB B = C at *
            go_wp2
            go_roundw
            case rel => exact ⟨k + 1, _, C, by omega, by omega, rfl, by go_num, HB9, hlen⟩
            case measure => simp [intOf]; omega
        · have hB4' : (B.length : Int) > 400 := by omega
          go_wp2_with (first
            | (with_reducible refine aw_elem (o := ⟨kd, n, m, .slice bo B.length bc, B⟩) rfl Hcr.out ?_)
            | ((with_reducible refine aw_alloc (dst := some 9) Hi29.out Hz29.out ?_); intro w6 hw6 hk6 hz6; have Hz6 := hide hz6; clear hz6)
            | ((with_reducible refine aw_store (x := .tmp 9) (M := OpV.cells ⟨kd, n, m, .slice bo B.length bc, B⟩) Try.agg29 rfl rfl (OpV.cells_length _) H1.out hw6 (by simp [Value.cells]) ?_); intro w7 hw7 hk7 hz7; rw [put_whole _ _ (by simp [Value.cells, OpV.cells])] at hw7; have Hz7 := hide hz7; clear hz7; have c0 : w7.cell? ⟨wr.heap.size, 0, none⟩ = some (.int .i64 kd) := hw7.cell 0; have c1 : w7.cell? ⟨wr.heap.size, 1, none⟩ = some (.int .i64 n) := hw7.cell 1; have c2 : w7.cell? ⟨wr.heap.size, 2, none⟩ = some (.int .i64 m) := hw7.cell 2; have c3 : w7.cell? ⟨wr.heap.size, 3, none⟩ = some (.slice bo B.length bc) := hw7.cell 3))
          have hkF : Kept (fun _ => False) w w7 := (HB.out.kept.trans hk6 (fun _ _ h => h)).trans hk7 (fun i hi h => by have := HB.out.kept.size; omega)
          go_ret
          exact ⟨rfl, hkF⟩
      · obtain rfl : k = 60 := by omega
        go_wp2_with (first
          | (with_reducible refine aw_elem (o := ⟨kd, n, m, .slice bo B.length bc, B⟩) rfl Hcr.out ?_)
          | ((with_reducible refine aw_alloc (dst := some 9) Hi29.out Hz29.out ?_); intro w6 hw6 hk6 hz6; have Hz6 := hide hz6; clear hz6)
          | ((with_reducible refine aw_store (x := .tmp 9) (M := OpV.cells ⟨kd, n, m, .slice bo B.length bc, B⟩) Try.agg29 rfl rfl (OpV.cells_length _) H1.out hw6 (by simp [Value.cells]) ?_); intro w7 hw7 hk7 hz7; rw [put_whole _ _ (by simp [Value.cells, OpV.cells])] at hw7; have Hz7 := hide hz7; clear hz7; have c0 : w7.cell? ⟨wr.heap.size, 0, none⟩ = some (.int .i64 kd) := hw7.cell 0; have c1 : w7.cell? ⟨wr.heap.size, 1, none⟩ = some (.int .i64 n) := hw7.cell 1; have c2 : w7.cell? ⟨wr.heap.size, 2, none⟩ = some (.int .i64 m) := hw7.cell 2; have c3 : w7.cell? ⟨wr.heap.size, 3, none⟩ = some (.slice bo B.length bc) := hw7.cell 3))
        have hkF : Kept (fun _ => False) w w7 := (HB.out.kept.trans hk6 (fun _ _ h => h)).trans hk7 (fun i hi h => by have := HB.out.kept.size; omega)
        go_ret
        exact ⟨rfl, hkF⟩
    · obtain rfl : k = len := by omega
      have HP := hide HB.out.pen
      have HK := hide HB.out.kept
      clear HB
      by_cases hpad : pad > 1000
      · go_wp2
        refine hold_frame (p := fun fr => Code.wp Try.prog _ _ fr _) ?_
        intro fr hfr
        have e1 : fr.eval (.tmp 1) = .int .i64 1000 := by rw [hfr.out]; rfl
        have e5 : fr.eval (.tmp 5) = .pointer (some ⟨p, 0, none⟩) := by rw [hfr.out]; rfl
        have e6 : fr.eval (.tmp 6) = .pointer none := by rw [hfr.out]; rfl
        have e7 : fr.eval (.tmp 7) = .string (strN A) := by rw [hfr.out]; rfl
        have hts : fr.tmps.size = 103 := by rw [hfr.out]; rfl
        refine region_S0 99 Try.mixed ?_
        intro w0 hkw hheap
        have hS0 : Kept (fun _ => False) w0 w0 := Kept.refl (fun _ => False) w0
        refine ⟨Kept (fun _ => False) w0, ?_⟩
        refine tkS 0 82 (v := .pointer (some ⟨p, 0, none⟩)) hS0 rfl rfl (by kernel_rfl) (by kernel_rfl) (by kernel_rfl) (by kernel_rfl) (wanted_none rfl) (fun _ _ _ h => h) (fun U hU => r_move (by simp [eval_put_ne, eval_put_eq, size_put, hts, e5])) ?_
        refine tkS 3 85 (v := .string (strN A)) hS0 rfl rfl (by kernel_rfl) (by kernel_rfl) (by kernel_rfl) (by kernel_rfl) (wanted_none rfl) (fun _ _ _ h => h) (fun U hU => r_move (by simp [eval_put_ne, eval_put_eq, size_put, hts, e7])) ?_
        refine oneCS 1 83 (by kernel_rfl) rfl rfl (wanted_none rfl) (r_call1 Try.func13 (by kernel_rfl) rfl rfl (by simp [eval_put_ne, eval_put_eq, size_put, hts])) (bytes_at w0 p u A (HP.out.kept hkw (fun h => h) (fun _ _ h => h)) (by omega)) ?_
        rintro e w3 ⟨v3, rfl, hs3, hk3⟩
        refine ⟨_, rfl, hk3, ?_⟩
        refine raiseM (S' := Kept (fun _ => False) w3) (fun U hU => hk3.trans hU (fun _ _ h => h)) ?_
        have hS3 : (Kept (fun _ => False) w3) _ := Kept.refl _ _
        refine tkS 2 84 (v := .string (strN A)) hS3 rfl rfl (by kernel_rfl) (by kernel_rfl) (by kernel_rfl) (by kernel_rfl) (wanted_none rfl) (fun _ _ _ h => h) (fun U hU => r_strS (v := v3) (by simp [eval_put_ne, eval_put_eq, size_put, hts]) (hs3.kept hU)) ?_
        refine tkS 4 86 (v := .bool true) hS3 rfl rfl (by kernel_rfl) (by kernel_rfl) (by kernel_rfl) (by kernel_rfl) (wanted_none rfl) (fun _ _ _ h => h) (fun U hU => (r_eql9 (p := strN A) (q := strN A) (by simp [eval_put_ne, eval_put_eq, size_put, hts]) (by simp [eval_put_ne, eval_put_eq, size_put, hts])).trans (by simp)) ?_
        refine tkS 5 87 (v := .bool true) hS3 rfl rfl (by kernel_rfl) (by kernel_rfl) (by kernel_rfl) (by kernel_rfl) (wanted_none rfl) (fun _ _ _ h => h) (fun U hU => r_move (by simp [eval_put_ne, eval_put_eq, size_put, hts])) ?_
        refine tkS 6 88 (v := .pointer (some ⟨p, 0, none⟩)) hS3 rfl rfl (by kernel_rfl) (by kernel_rfl) (by kernel_rfl) (by kernel_rfl) (wanted_some (j := 5) (d := 87) (bb := true) rfl rfl rfl (by simp [eval_put_ne, eval_put_eq, size_put, hts]) (by simp [size_put, hts])) (fun _ _ _ h => h) (fun U hU => r_move (by simp [eval_put_ne, eval_put_eq, size_put, hts, e5])) ?_
        refine tkS 7 89 (v := .int .i64 1000) hS3 rfl rfl (by kernel_rfl) (by kernel_rfl) (by kernel_rfl) (by kernel_rfl) (wanted_some (j := 5) (d := 87) (bb := true) rfl rfl rfl (by simp [eval_put_ne, eval_put_eq, size_put, hts]) (by simp [size_put, hts])) (fun _ _ _ h => h) (fun U hU => r_move (by simp [eval_put_ne, eval_put_eq, size_put, hts, e1])) ?_
        refine tkS 10 92 (v := .string (strN A)) hS3 rfl rfl (by kernel_rfl) (by kernel_rfl) (by kernel_rfl) (by kernel_rfl) (wanted_some (j := 5) (d := 87) (bb := true) rfl rfl rfl (by simp [eval_put_ne, eval_put_eq, size_put, hts]) (by simp [size_put, hts])) (fun _ _ _ h => h) (fun U hU => r_move (by simp [eval_put_ne, eval_put_eq, size_put, hts, e7])) ?_
        refine tkS 11 93 (v := .int .i64 1000) hS3 rfl rfl (by kernel_rfl) (by kernel_rfl) (by kernel_rfl) (by kernel_rfl) (wanted_some (j := 5) (d := 87) (bb := true) rfl rfl rfl (by simp [eval_put_ne, eval_put_eq, size_put, hts]) (by simp [size_put, hts])) (fun _ _ _ h => h) (fun U hU => r_move (by simp [eval_put_ne, eval_put_eq, size_put, hts, e1])) ?_
        refine oneCS 8 90 (by kernel_rfl) rfl rfl (wanted_some (j := 5) (d := 87) (bb := true) rfl rfl rfl (by simp [eval_put_ne, eval_put_eq, size_put, hts]) (by simp [size_put, hts])) (r_call2 Try.func14 (by kernel_rfl) rfl rfl (by simp [eval_put_ne, eval_put_eq, size_put, hts]) (by simp [eval_put_ne, eval_put_eq, size_put, hts])) (padded_at w3 p u A ((HP.out.kept hkw (fun h => h) (fun _ _ h => h)).kept hk3 (fun h => h) (fun _ _ h => h)) (by omega) 1000 (by decide)) ?_
        rintro e w4 ⟨v4, rfl, hs4, hk4⟩
        refine ⟨_, rfl, hk4, ?_⟩
        refine raiseM (S' := Kept (fun _ => False) w4) (fun U hU => hk4.trans hU (fun _ _ h => h)) ?_
        have hS4 : (Kept (fun _ => False) w4) _ := Kept.refl _ _
        refine tkS 9 91 (v := .string (strN (padN A 1000))) hS4 rfl rfl (by kernel_rfl) (by kernel_rfl) (by kernel_rfl) (by kernel_rfl) (wanted_some (j := 5) (d := 87) (bb := true) rfl rfl rfl (by simp [eval_put_ne, eval_put_eq, size_put, hts]) (by simp [size_put, hts])) (fun _ _ _ h => h) (fun U hU => r_strS (v := v4) (by simp [eval_put_ne, eval_put_eq, size_put, hts]) (hs4.kept hU)) ?_
        refine oneCS 12 94 (by kernel_rfl) rfl rfl (wanted_some (j := 5) (d := 87) (bb := true) rfl rfl rfl (by simp [eval_put_ne, eval_put_eq, size_put, hts]) (by simp [size_put, hts])) (r_call2 Try.func15 (by kernel_rfl) rfl rfl (by simp [eval_put_ne, eval_put_eq, size_put, hts]) (by simp [eval_put_ne, eval_put_eq, size_put, hts])) (rpad_at w4 A (by omega) 1000 (by decide)) ?_
        rintro e w5 ⟨rfl, rfl⟩
        refine ⟨_, rfl, hS4, ?_⟩
        refine tkS 13 95 (v := .bool true) hS4 rfl rfl (by kernel_rfl) (by kernel_rfl) (by kernel_rfl) (by kernel_rfl) (wanted_some (j := 5) (d := 87) (bb := true) rfl rfl rfl (by simp [eval_put_ne, eval_put_eq, size_put, hts]) (by simp [size_put, hts])) (fun _ _ _ h => h) (fun U hU => (r_eql9 (p := strN (padN A 1000)) (q := strN (padN A 1000)) (by simp [eval_put_ne, eval_put_eq, size_put, hts]) (by simp [eval_put_ne, eval_put_eq, size_put, hts])).trans (by simp)) ?_
        refine tkS 14 96 (v := .bool true) hS4 rfl rfl (by kernel_rfl) (by kernel_rfl) (by kernel_rfl) (by kernel_rfl) (wanted_none rfl) (fun _ _ _ h => h) (fun U hU => r_pick (by simp [eval_put_ne, eval_put_eq, size_put, hts]) (by simp [eval_put_ne, eval_put_eq, size_put, hts])) ?_
        refine tkS 15 97 (v := .bool true) hS4 rfl rfl (by kernel_rfl) (by kernel_rfl) (by kernel_rfl) (by kernel_rfl) (wanted_none rfl) (fun _ _ _ h => h) (fun U hU => r_move (by simp [eval_put_ne, eval_put_eq, size_put, hts])) ?_
        refine tkS 16 98 (v := .pointer none) hS4 rfl rfl (by kernel_rfl) (by kernel_rfl) (by kernel_rfl) (by kernel_rfl) (wanted_some (j := 15) (d := 97) (bb := true) rfl rfl rfl (by simp [eval_put_ne, eval_put_eq, size_put, hts]) (by simp [size_put, hts])) (fun _ _ _ h => h) (fun U hU => r_move (by simp [eval_put_ne, eval_put_eq, size_put, hts, e6])) ?_
        refine oneCS 17 99 (by kernel_rfl) rfl rfl (wanted_some (j := 15) (d := 97) (bb := true) rfl rfl rfl (by simp [eval_put_ne, eval_put_eq, size_put, hts]) (by simp [size_put, hts])) (r_call1 Try.func13 (by kernel_rfl) rfl rfl (by simp [eval_put_ne, eval_put_eq, size_put, hts])) (bytes_nil w4) ?_
        rintro e w5 ⟨rfl, rfl⟩
        refine ⟨_, rfl, hS4, ?_⟩
        refine tkS 18 100 (v := .int .i64 ((0 : Nat) : Int)) hS4 rfl rfl (by kernel_rfl) (by kernel_rfl) (by kernel_rfl) (by kernel_rfl) (wanted_some (j := 15) (d := 97) (bb := true) rfl rfl rfl (by simp [eval_put_ne, eval_put_eq, size_put, hts]) (by simp [size_put, hts])) (fun _ _ _ h => h) (fun U hU => r_len25 (ao := none) (l := 0) (c := 0) (by simp [eval_put_ne, eval_put_eq, size_put, hts])) ?_
        refine tkS 19 101 (v := .bool true) hS4 rfl rfl (by kernel_rfl) (by kernel_rfl) (by kernel_rfl) (by kernel_rfl) (wanted_some (j := 15) (d := 97) (bb := true) rfl rfl rfl (by simp [eval_put_ne, eval_put_eq, size_put, hts]) (by simp [size_put, hts])) (fun _ _ _ h => h) (fun U hU => (r_eql3 (p := ((0 : Nat) : Int)) (q := 0) (by simp [eval_put_ne, eval_put_eq, size_put, hts]) rfl).trans (by simp)) ?_
        refine tkS 20 102 (v := .bool true) hS4 rfl rfl (by kernel_rfl) (by kernel_rfl) (by kernel_rfl) (by kernel_rfl) (wanted_none rfl) (fun _ _ _ h => h) (fun U hU => r_pick (by simp [eval_put_ne, eval_put_eq, size_put, hts]) (by simp [eval_put_ne, eval_put_eq, size_put, hts])) ?_
        refine tkS 21 4 (v := .bool true) hS4 rfl rfl (by kernel_rfl) (by kernel_rfl) (by kernel_rfl) (by kernel_rfl) (wanted_none rfl) (fun _ _ _ h => h) (fun U hU => r_assign (by simp [eval_put_ne, eval_put_eq, size_put, hts])) ?_
        refine doneS (by kernel_rfl) ?_
        rw [hfr.out]
        clear hfr e1 e5 e6 e7 hts
        simp only [put_lit, put_none, List.set_cons_succ, List.set_cons_zero]
        have hkF := ((HK.out.trans hkw (fun _ _ h => h)).trans hk3 (fun _ _ h => h)).trans hk4 (fun _ _ h => h)
        clear hS0 hS3 hS4 hs3 hs4 hk3 hk4 hkw hheap
        generalize strN (padN A 1000) = sp at *
        go_wp2
        go_ret
        exact ⟨rfl, hkF⟩
      · have hpl : pad ≤ 1000 := by omega
        go_wp2
        refine hold_frame (p := fun fr => Code.wp Try.prog _ _ fr _) ?_
        intro fr hfr
        have e1 : fr.eval (.tmp 1) = .int .i64 pad := by rw [hfr.out]; rfl
        have e5 : fr.eval (.tmp 5) = .pointer (some ⟨p, 0, none⟩) := by rw [hfr.out]; rfl
        have e6 : fr.eval (.tmp 6) = .pointer none := by rw [hfr.out]; rfl
        have e7 : fr.eval (.tmp 7) = .string (strN A) := by rw [hfr.out]; rfl
        have hts : fr.tmps.size = 103 := by rw [hfr.out]; rfl
        refine region_S0 99 Try.mixed ?_
        intro w0 hkw hheap
        have hS0 : Kept (fun _ => False) w0 w0 := Kept.refl (fun _ => False) w0
        refine ⟨Kept (fun _ => False) w0, ?_⟩
        refine tkS 0 82 (v := .pointer (some ⟨p, 0, none⟩)) hS0 rfl rfl (by kernel_rfl) (by kernel_rfl) (by kernel_rfl) (by kernel_rfl) (wanted_none rfl) (fun _ _ _ h => h) (fun U hU => r_move (by simp [eval_put_ne, eval_put_eq, size_put, hts, e5])) ?_
        refine tkS 3 85 (v := .string (strN A)) hS0 rfl rfl (by kernel_rfl) (by kernel_rfl) (by kernel_rfl) (by kernel_rfl) (wanted_none rfl) (fun _ _ _ h => h) (fun U hU => r_move (by simp [eval_put_ne, eval_put_eq, size_put, hts, e7])) ?_
        refine oneCS 1 83 (by kernel_rfl) rfl rfl (wanted_none rfl) (r_call1 Try.func13 (by kernel_rfl) rfl rfl (by simp [eval_put_ne, eval_put_eq, size_put, hts])) (bytes_at w0 p u A (HP.out.kept hkw (fun h => h) (fun _ _ h => h)) (by omega)) ?_
        rintro e w3 ⟨v3, rfl, hs3, hk3⟩
        refine ⟨_, rfl, hk3, ?_⟩
        refine raiseM (S' := Kept (fun _ => False) w3) (fun U hU => hk3.trans hU (fun _ _ h => h)) ?_
        have hS3 : (Kept (fun _ => False) w3) _ := Kept.refl _ _
        refine tkS 2 84 (v := .string (strN A)) hS3 rfl rfl (by kernel_rfl) (by kernel_rfl) (by kernel_rfl) (by kernel_rfl) (wanted_none rfl) (fun _ _ _ h => h) (fun U hU => r_strS (v := v3) (by simp [eval_put_ne, eval_put_eq, size_put, hts]) (hs3.kept hU)) ?_
        refine tkS 4 86 (v := .bool true) hS3 rfl rfl (by kernel_rfl) (by kernel_rfl) (by kernel_rfl) (by kernel_rfl) (wanted_none rfl) (fun _ _ _ h => h) (fun U hU => (r_eql9 (p := strN A) (q := strN A) (by simp [eval_put_ne, eval_put_eq, size_put, hts]) (by simp [eval_put_ne, eval_put_eq, size_put, hts])).trans (by simp)) ?_
        refine tkS 5 87 (v := .bool true) hS3 rfl rfl (by kernel_rfl) (by kernel_rfl) (by kernel_rfl) (by kernel_rfl) (wanted_none rfl) (fun _ _ _ h => h) (fun U hU => r_move (by simp [eval_put_ne, eval_put_eq, size_put, hts])) ?_
        refine tkS 6 88 (v := .pointer (some ⟨p, 0, none⟩)) hS3 rfl rfl (by kernel_rfl) (by kernel_rfl) (by kernel_rfl) (by kernel_rfl) (wanted_some (j := 5) (d := 87) (bb := true) rfl rfl rfl (by simp [eval_put_ne, eval_put_eq, size_put, hts]) (by simp [size_put, hts])) (fun _ _ _ h => h) (fun U hU => r_move (by simp [eval_put_ne, eval_put_eq, size_put, hts, e5])) ?_
        refine tkS 7 89 (v := .int .i64 pad) hS3 rfl rfl (by kernel_rfl) (by kernel_rfl) (by kernel_rfl) (by kernel_rfl) (wanted_some (j := 5) (d := 87) (bb := true) rfl rfl rfl (by simp [eval_put_ne, eval_put_eq, size_put, hts]) (by simp [size_put, hts])) (fun _ _ _ h => h) (fun U hU => r_move (by simp [eval_put_ne, eval_put_eq, size_put, hts, e1])) ?_
        refine tkS 10 92 (v := .string (strN A)) hS3 rfl rfl (by kernel_rfl) (by kernel_rfl) (by kernel_rfl) (by kernel_rfl) (wanted_some (j := 5) (d := 87) (bb := true) rfl rfl rfl (by simp [eval_put_ne, eval_put_eq, size_put, hts]) (by simp [size_put, hts])) (fun _ _ _ h => h) (fun U hU => r_move (by simp [eval_put_ne, eval_put_eq, size_put, hts, e7])) ?_
        refine tkS 11 93 (v := .int .i64 pad) hS3 rfl rfl (by kernel_rfl) (by kernel_rfl) (by kernel_rfl) (by kernel_rfl) (wanted_some (j := 5) (d := 87) (bb := true) rfl rfl rfl (by simp [eval_put_ne, eval_put_eq, size_put, hts]) (by simp [size_put, hts])) (fun _ _ _ h => h) (fun U hU => r_move (by simp [eval_put_ne, eval_put_eq, size_put, hts, e1])) ?_
        refine oneCS 8 90 (by kernel_rfl) rfl rfl (wanted_some (j := 5) (d := 87) (bb := true) rfl rfl rfl (by simp [eval_put_ne, eval_put_eq, size_put, hts]) (by simp [size_put, hts])) (r_call2 Try.func14 (by kernel_rfl) rfl rfl (by simp [eval_put_ne, eval_put_eq, size_put, hts]) (by simp [eval_put_ne, eval_put_eq, size_put, hts])) (padded_at w3 p u A ((HP.out.kept hkw (fun h => h) (fun _ _ h => h)).kept hk3 (fun h => h) (fun _ _ h => h)) (by omega) pad hpl) ?_
        rintro e w4 ⟨v4, rfl, hs4, hk4⟩
        refine ⟨_, rfl, hk4, ?_⟩
        refine raiseM (S' := Kept (fun _ => False) w4) (fun U hU => hk4.trans hU (fun _ _ h => h)) ?_
        have hS4 : (Kept (fun _ => False) w4) _ := Kept.refl _ _
        refine tkS 9 91 (v := .string (strN (padN A pad))) hS4 rfl rfl (by kernel_rfl) (by kernel_rfl) (by kernel_rfl) (by kernel_rfl) (wanted_some (j := 5) (d := 87) (bb := true) rfl rfl rfl (by simp [eval_put_ne, eval_put_eq, size_put, hts]) (by simp [size_put, hts])) (fun _ _ _ h => h) (fun U hU => r_strS (v := v4) (by simp [eval_put_ne, eval_put_eq, size_put, hts]) (hs4.kept hU)) ?_
        refine oneCS 12 94 (by kernel_rfl) rfl rfl (wanted_some (j := 5) (d := 87) (bb := true) rfl rfl rfl (by simp [eval_put_ne, eval_put_eq, size_put, hts]) (by simp [size_put, hts])) (r_call2 Try.func15 (by kernel_rfl) rfl rfl (by simp [eval_put_ne, eval_put_eq, size_put, hts]) (by simp [eval_put_ne, eval_put_eq, size_put, hts])) (rpad_at w4 A (by omega) pad hpl) ?_
        rintro e w5 ⟨rfl, rfl⟩
        refine ⟨_, rfl, hS4, ?_⟩
        refine tkS 13 95 (v := .bool true) hS4 rfl rfl (by kernel_rfl) (by kernel_rfl) (by kernel_rfl) (by kernel_rfl) (wanted_some (j := 5) (d := 87) (bb := true) rfl rfl rfl (by simp [eval_put_ne, eval_put_eq, size_put, hts]) (by simp [size_put, hts])) (fun _ _ _ h => h) (fun U hU => (r_eql9 (p := strN (padN A pad)) (q := strN (padN A pad)) (by simp [eval_put_ne, eval_put_eq, size_put, hts]) (by simp [eval_put_ne, eval_put_eq, size_put, hts])).trans (by simp)) ?_
        refine tkS 14 96 (v := .bool true) hS4 rfl rfl (by kernel_rfl) (by kernel_rfl) (by kernel_rfl) (by kernel_rfl) (wanted_none rfl) (fun _ _ _ h => h) (fun U hU => r_pick (by simp [eval_put_ne, eval_put_eq, size_put, hts]) (by simp [eval_put_ne, eval_put_eq, size_put, hts])) ?_
        refine tkS 15 97 (v := .bool true) hS4 rfl rfl (by kernel_rfl) (by kernel_rfl) (by kernel_rfl) (by kernel_rfl) (wanted_none rfl) (fun _ _ _ h => h) (fun U hU => r_move (by simp [eval_put_ne, eval_put_eq, size_put, hts])) ?_
        refine tkS 16 98 (v := .pointer none) hS4 rfl rfl (by kernel_rfl) (by kernel_rfl) (by kernel_rfl) (by kernel_rfl) (wanted_some (j := 15) (d := 97) (bb := true) rfl rfl rfl (by simp [eval_put_ne, eval_put_eq, size_put, hts]) (by simp [size_put, hts])) (fun _ _ _ h => h) (fun U hU => r_move (by simp [eval_put_ne, eval_put_eq, size_put, hts, e6])) ?_
        refine oneCS 17 99 (by kernel_rfl) rfl rfl (wanted_some (j := 15) (d := 97) (bb := true) rfl rfl rfl (by simp [eval_put_ne, eval_put_eq, size_put, hts]) (by simp [size_put, hts])) (r_call1 Try.func13 (by kernel_rfl) rfl rfl (by simp [eval_put_ne, eval_put_eq, size_put, hts])) (bytes_nil w4) ?_
        rintro e w5 ⟨rfl, rfl⟩
        refine ⟨_, rfl, hS4, ?_⟩
        refine tkS 18 100 (v := .int .i64 ((0 : Nat) : Int)) hS4 rfl rfl (by kernel_rfl) (by kernel_rfl) (by kernel_rfl) (by kernel_rfl) (wanted_some (j := 15) (d := 97) (bb := true) rfl rfl rfl (by simp [eval_put_ne, eval_put_eq, size_put, hts]) (by simp [size_put, hts])) (fun _ _ _ h => h) (fun U hU => r_len25 (ao := none) (l := 0) (c := 0) (by simp [eval_put_ne, eval_put_eq, size_put, hts])) ?_
        refine tkS 19 101 (v := .bool true) hS4 rfl rfl (by kernel_rfl) (by kernel_rfl) (by kernel_rfl) (by kernel_rfl) (wanted_some (j := 15) (d := 97) (bb := true) rfl rfl rfl (by simp [eval_put_ne, eval_put_eq, size_put, hts]) (by simp [size_put, hts])) (fun _ _ _ h => h) (fun U hU => (r_eql3 (p := ((0 : Nat) : Int)) (q := 0) (by simp [eval_put_ne, eval_put_eq, size_put, hts]) rfl).trans (by simp)) ?_
        refine tkS 20 102 (v := .bool true) hS4 rfl rfl (by kernel_rfl) (by kernel_rfl) (by kernel_rfl) (by kernel_rfl) (wanted_none rfl) (fun _ _ _ h => h) (fun U hU => r_pick (by simp [eval_put_ne, eval_put_eq, size_put, hts]) (by simp [eval_put_ne, eval_put_eq, size_put, hts])) ?_
        refine tkS 21 4 (v := .bool true) hS4 rfl rfl (by kernel_rfl) (by kernel_rfl) (by kernel_rfl) (by kernel_rfl) (wanted_none rfl) (fun _ _ _ h => h) (fun U hU => r_assign (by simp [eval_put_ne, eval_put_eq, size_put, hts])) ?_
        refine doneS (by kernel_rfl) ?_
        rw [hfr.out]
        clear hfr e1 e5 e6 e7 hts
        simp only [put_lit, put_none, List.set_cons_succ, List.set_cons_zero]
        have hkF := ((HK.out.trans hkw (fun _ _ h => h)).trans hk3 (fun _ _ h => h)).trans hk4 (fun _ _ h => h)
        clear hS0 hS3 hS4 hs3 hs4 hk3 hk4 hkw hheap
        generalize strN (padN A pad) = sp at *
        go_wp2
        go_ret
        exact ⟨rfl, hkF⟩

end Go.Proofs.Yteffiglfeenokaa
