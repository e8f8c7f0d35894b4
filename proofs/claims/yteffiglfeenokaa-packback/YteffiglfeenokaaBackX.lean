/-
  The walk of PackBack: it answers true, and touches nothing that was there.
-/
import Derived.Test.YteffiglfeenokaaBackA
namespace Go.Proofs.Yteffiglfeenokaa
open Go.RowKit Go.Shelf
set_option linter.unusedSimpArgs false
set_option linter.unusedVariables false

set_option maxRecDepth 100000 in
set_option maxHeartbeats 8000000 in
theorem back_any (w : World) (ao : Option Addr) (len cap : Nat) (L : List OpV) (hL : L.length = len) (hlm : len ≤ 9223372036854775807) (hops : OpsAt w ao L) :
    Calls Try.prog 5 #[.slice ao len cap] w fun e w' => e = .returned (.bool true) ∧ Kept (fun _ => False) w w' := by
  obtain ⟨i29, hi29, hz29, hs29, hb29⟩ := info_parts Try.info29
  have Hi29 := hide hi29
  have Hz29 := hide hz29
  have HO := hide hops
  have HL := hide hL
  clear hi29 hz29 hs29 hb29 hops hL
  go_enter Try.func5, Try.ntmps5
  go_wp2_with fail
  refine (first_any w).mono ?_
  rintro e w1 ⟨rfl, hk1⟩
  go_wp2_with (with_reducible refine stop_build 27 ?_)
  refine hide ?_
  refine wpList_run rfl r_build27 ?_
  refine aw_box (v := .agg #[.slice none 0 0]) rfl ?_
  intro w2 hb1 hk2 hz2
  have hP := pen_new hb1
  have hp0 : w.heap.size ≤ w1.heap.size := hk1.size
  generalize w1.heap.size = p at *
  have HP := hide hP
  clear hb1 hz2 hP
  go_wp2_with (with_reducible refine stop_bs 22 ?_)
  refine hide ?_
  refine wpList_run rfl built_none ?_
  have hk3 := Kept.alloc (fun _ => False) w2 (.cells #[] 29)
  have hk03 := (hk1.trans hk2 (fun _ _ h => h)).trans hk3 (fun _ _ h => h)
  have HB0 : Hid (Bk w (w2.alloc (.cells #[] 29)) p (.slice none 0 0) (.slice (some ⟨w2.heap.size, 0, none⟩) 0 0) (encs []) []) := hide
    ⟨hp0, hk03, HP.out.kept hk3 (fun h => h) (fun _ _ h => h), fun k h => by simp [Value.ownBlock] at h, World.ownsRow_made w2 #[] 0 (by have := hk1.size; have := hk2.size; omega) (Nat.zero_le _) rfl, by simp⟩
  generalize w2.alloc (.cells #[] 29) = w3 at *
  generalize w2.heap.size = dg at *
  clear hk1 hk2 hk3 HP hk03 hp0
  go_wp2
  go_loopw [4, 17] (fun dv i wr => ∃ (k : Nat) (u : Value) (D : List OpV), k ≤ len ∧ k ≤ 60 ∧ i = .int .i64 k ∧ Hid (Bk w wr p u dv (encs D) D) ∧ D.length ≤ k) (fun _ i _ => len - (intOf i).toNat)
  case atStart => exact ⟨0, _, [], by omega, by omega, rfl, HB0, by simp⟩
  case round =>
    obtain ⟨k, u, D, hk, hk60, rfl, HB, hDk⟩ := hrel
    obtain ⟨dbo, dc, e⟩ := HB.out.done.slice
    subst e
    by_cases hlt : k < len
    · obtain ⟨sb, so, e, hcell, hop⟩ := HO.out k (by rw [HL.out]; exact hlt)
      subst e
      obtain ⟨bo, bc, e⟩ := hop.slice
      obtain ⟨⟨kd, n, m, vb, B⟩, ho⟩ : ∃ o, L[k]'(by rw [HL.out]; exact hlt) = o := ⟨_, rfl⟩
      rw [ho] at hcell hop e
      simp only at e
      subst e
      have H1 := hide hop.one
      have HOp := hide hop
      have hcr := HB.out.kept.cells hcell (fun h => h)
      have hbk := hop.2.1
      have hbn := hop.2.2.1
      have hbm := hop.2.2.2.1
      have hbB := hop.2.2.2.2
      simp only at hbk hbn hbm hbB
      have Hcr := hide hcr
      clear hcell ho hop
      by_cases hk59 : k < 60
      · by_cases hB4 : B.length ≤ 400
        · by_cases hev : kd.tmod 2 = 0
          · by_cases hf : fitsN n m = true
            · skip
              have HN := hide (fun W h => number_at W p u (encs D) h (by have := HB.out.len; omega) n m hbn.2)
              clear hcr
              go_wp2_with (first
                | (with_reducible refine aw_elem (o := ⟨kd, n, m, .slice bo B.length bc, B⟩) rfl Hcr.out ?_)
                | ((with_reducible refine aw_alloc (dst := some 6) Hi29.out Hz29.out ?_); intro w6 hw6 hk6 hz6; have Hz6 := hide hz6; clear hz6)
                | ((with_reducible refine aw_store (x := .tmp 6) (M := OpV.cells ⟨kd, n, m, .slice bo B.length bc, B⟩) Try.agg29 rfl rfl (OpV.cells_length _) H1.out hw6 (by simp [Value.cells]) ?_); intro w7 hw7 hk7 hz7; rw [put_whole _ _ (by simp [Value.cells, OpV.cells])] at hw7; have Hz7 := hide hz7; clear hz7; have c0 : w7.cell? ⟨wr.heap.size, 0, none⟩ = some (.int .i64 kd) := hw7.cell 0; have c1 : w7.cell? ⟨wr.heap.size, 1, none⟩ = some (.int .i64 n) := hw7.cell 1; have c2 : w7.cell? ⟨wr.heap.size, 2, none⟩ = some (.int .i64 m) := hw7.cell 2; have c3 : w7.cell? ⟨wr.heap.size, 3, none⟩ = some (.slice bo B.length bc) := hw7.cell 3))
              have hkk : Kept (fun _ => False) wr w7 := hk6.trans hk7 (fun i hi h => by omega)
              have HB7 := hide (HB.out.same hkk)
              have HN7 := hide (HN.out w7 HB7.out.pen)
              rw [hf] at HN7
              have HE : Hid (penNum (encs D) n m = encs D ++ (OpV.enc ⟨kd, n, m, .slice bo B.length bc, B⟩)) := hide (by unfold penNum; rw [hf, (OpV.even hev).2]; rfl)
              rw [HE.out] at HN7
              refine HN7.out.mono ?_
              rintro e w8 ⟨u8, rfl, hP8, hk8, hm8⟩
              have hw8 := HB7.out.var hk8 hw7
              have HC8 : Hid (Cells w8 wr.heap.size 0 (OpV.cells ⟨kd, n, m, .slice bo B.length bc, B⟩)) := hide (hw8.cells 0 4)
              have HW8 := hide hw8
              have HB8 := hide (HB7.out.penned hP8 hk8 hm8)
              have HOk : Hid (OpV.ok ⟨kd, n, m, .slice bo B.length bc, B⟩ = true ∧ (OpV.mk kd n m (.slice bo B.length bc) B).B.length ≤ 400 ∧ OpIs w ⟨kd, n, m, .slice bo B.length bc, B⟩) := hide ⟨(OpV.even hev).1.trans hf, hB4, HOp.out⟩
              clear c0 c1 c2 c3 hw6 hw7 hw8 hk6 hk7 hP8 hk8 hm8 hkk H1 Hcr
              go_wp2_with (first
                | (with_reducible refine aw_elem (o := ⟨kd, n, m, .slice bo B.length bc, B⟩) rfl HC8.out ?_)
                | (with_reducible refine stop_bs 22 ?_))
              refine hide ?_
              refine wpList_run rfl (built_one (o := ⟨kd, n, m, .slice bo B.length bc, B⟩) rfl) ?_
              have hk9 := Kept.alloc (fun _ => False) w8 (.cells (OpV.cells ⟨kd, n, m, .slice bo B.length bc, B⟩).toArray 29)
              have hb9 := Blk.new w8 (OpV.cells ⟨kd, n, m, .slice bo B.length bc, B⟩) 29
              have hB9 := HB8.out.same hk9
              generalize w8.alloc (.cells (OpV.cells ⟨kd, n, m, .slice bo B.length bc, B⟩).toArray 29) = w9 at *
              obtain ⟨dv', w10, hr, hB10⟩ := hB9.add (by omega) hb9 HOk.out 22
              refine wpList_run rfl (r_append22 rfl rfl hr) ?_
              have HB10 := hide hB10
              clear hr hB10 hB9 hb9 hk9
              generalize w8.heap.size = g9 at *
              go_wp2
              go_roundw
              case rel => exact ⟨k + 1, _, D ++ [⟨kd, n, m, .slice bo B.length bc, B⟩], by omega, by omega, by go_num, by rw [encs_snoc]; exact HB10, by simp; omega⟩
              case measure => simp [intOf]; omega
            · skip
              have hf' : fitsN n m = false := by simpa using hf
              have HN := hide (fun W h => number_at W p u (encs D) h (by have := HB.out.len; omega) n m hbn.2)
              clear hcr
              go_wp2_with (first
                | (with_reducible refine aw_elem (o := ⟨kd, n, m, .slice bo B.length bc, B⟩) rfl Hcr.out ?_)
                | ((with_reducible refine aw_alloc (dst := some 6) Hi29.out Hz29.out ?_); intro w6 hw6 hk6 hz6; have Hz6 := hide hz6; clear hz6)
                | ((with_reducible refine aw_store (x := .tmp 6) (M := OpV.cells ⟨kd, n, m, .slice bo B.length bc, B⟩) Try.agg29 rfl rfl (OpV.cells_length _) H1.out hw6 (by simp [Value.cells]) ?_); intro w7 hw7 hk7 hz7; rw [put_whole _ _ (by simp [Value.cells, OpV.cells])] at hw7; have Hz7 := hide hz7; clear hz7; have c0 : w7.cell? ⟨wr.heap.size, 0, none⟩ = some (.int .i64 kd) := hw7.cell 0; have c1 : w7.cell? ⟨wr.heap.size, 1, none⟩ = some (.int .i64 n) := hw7.cell 1; have c2 : w7.cell? ⟨wr.heap.size, 2, none⟩ = some (.int .i64 m) := hw7.cell 2; have c3 : w7.cell? ⟨wr.heap.size, 3, none⟩ = some (.slice bo B.length bc) := hw7.cell 3))
              have hkk : Kept (fun _ => False) wr w7 := hk6.trans hk7 (fun i hi h => by omega)
              have HB7 := hide (HB.out.same hkk)
              have HN7 := hide (HN.out w7 HB7.out.pen)
              rw [hf'] at HN7
              have HE : Hid (penNum (encs D) n m = encs D) := hide (by unfold penNum; rw [hf']; rfl)
              rw [HE.out] at HN7
              refine HN7.out.mono ?_
              rintro e w8 ⟨u8, rfl, hP8, hk8, hm8⟩
              have hw8 := HB7.out.var hk8 hw7
              have HB8 := hide (HB7.out.penned hP8 hk8 hm8)
              clear c0 c1 c2 c3
              have c0 : w8.cell? ⟨wr.heap.size, 0, none⟩ = some (.int .i64 kd) := hw8.cell 0
              clear hw6 hw7 hw8 hk6 hk7 hP8 hk8 hm8 hkk H1 Hcr
              go_wp2
              go_roundw
              case rel => exact ⟨k + 1, _, D, by omega, by omega, by go_num, HB8, by omega⟩
              case measure => simp [intOf]; omega
          · skip
            have hT : Hid (∀ W, Bk w W p u (.slice dbo D.length dc) (encs D) D → Calls Try.prog 11 #[.pointer (some ⟨p, 0, none⟩), .slice bo B.length bc] W fun e w' => ∃ v', e = .returned (.bool true) ∧ PenAt w' p v' (encs D ++ textB B) ∧ Kept (penS p u) W w' ∧ moved W u v') := hide (fun W h =>
              text_at W p u (encs D) h.pen (by have := HB.out.len; omega) _ B (HOp.out.1.kept h.kept) (fun w' hk => HOp.out.1.kept (h.penned_kept hk)) (by omega))
            clear hcr
            go_wp2_with (first
              | (with_reducible refine aw_elem (o := ⟨kd, n, m, .slice bo B.length bc, B⟩) rfl Hcr.out ?_)
              | ((with_reducible refine aw_alloc (dst := some 6) Hi29.out Hz29.out ?_); intro w6 hw6 hk6 hz6; have Hz6 := hide hz6; clear hz6)
              | ((with_reducible refine aw_store (x := .tmp 6) (M := OpV.cells ⟨kd, n, m, .slice bo B.length bc, B⟩) Try.agg29 rfl rfl (OpV.cells_length _) H1.out hw6 (by simp [Value.cells]) ?_); intro w7 hw7 hk7 hz7; rw [put_whole _ _ (by simp [Value.cells, OpV.cells])] at hw7; have Hz7 := hide hz7; clear hz7; have c0 : w7.cell? ⟨wr.heap.size, 0, none⟩ = some (.int .i64 kd) := hw7.cell 0; have c1 : w7.cell? ⟨wr.heap.size, 1, none⟩ = some (.int .i64 n) := hw7.cell 1; have c2 : w7.cell? ⟨wr.heap.size, 2, none⟩ = some (.int .i64 m) := hw7.cell 2; have c3 : w7.cell? ⟨wr.heap.size, 3, none⟩ = some (.slice bo B.length bc) := hw7.cell 3))
            have hkk : Kept (fun _ => False) wr w7 := hk6.trans hk7 (fun i hi h => by omega)
            have HB7 := hide (HB.out.same hkk)
            have HN7 := hide (hT.out w7 HB7.out)
            have HE : Hid (encs D ++ textB B = encs D ++ (OpV.enc ⟨kd, n, m, .slice bo B.length bc, B⟩)) := hide (by rw [(OpV.odd hev).2])
            rw [HE.out] at HN7
            refine HN7.out.mono ?_
            rintro e w8 ⟨u8, rfl, hP8, hk8, hm8⟩
            have hw8 := HB7.out.var hk8 hw7
            have HC8 : Hid (Cells w8 wr.heap.size 0 (OpV.cells ⟨kd, n, m, .slice bo B.length bc, B⟩)) := hide (hw8.cells 0 4)
            have HW8 := hide hw8
            have HB8 := hide (HB7.out.penned hP8 hk8 hm8)
            have HOk : Hid (OpV.ok ⟨kd, n, m, .slice bo B.length bc, B⟩ = true ∧ (OpV.mk kd n m (.slice bo B.length bc) B).B.length ≤ 400 ∧ OpIs w ⟨kd, n, m, .slice bo B.length bc, B⟩) := hide ⟨(OpV.odd hev).1, hB4, HOp.out⟩
            clear c0 c1 c2 c3 hw6 hw7 hw8 hk6 hk7 hP8 hk8 hm8 hkk H1 Hcr
            go_wp2_with (first
              | (with_reducible refine aw_elem (o := ⟨kd, n, m, .slice bo B.length bc, B⟩) rfl HC8.out ?_)
              | (with_reducible refine stop_bs 22 ?_))
            refine hide ?_
            refine wpList_run rfl (built_one (o := ⟨kd, n, m, .slice bo B.length bc, B⟩) rfl) ?_
            have hk9 := Kept.alloc (fun _ => False) w8 (.cells (OpV.cells ⟨kd, n, m, .slice bo B.length bc, B⟩).toArray 29)
            have hb9 := Blk.new w8 (OpV.cells ⟨kd, n, m, .slice bo B.length bc, B⟩) 29
            have hB9 := HB8.out.same hk9
            generalize w8.alloc (.cells (OpV.cells ⟨kd, n, m, .slice bo B.length bc, B⟩).toArray 29) = w9 at *
            obtain ⟨dv', w10, hr, hB10⟩ := hB9.add (by omega) hb9 HOk.out 22
            refine wpList_run rfl (r_append22 rfl rfl hr) ?_
            have HB10 := hide hB10
            clear hr hB10 hB9 hb9 hk9
            generalize w8.heap.size = g9 at *
            go_wp2
            go_roundw
            case rel => exact ⟨k + 1, _, D ++ [⟨kd, n, m, .slice bo B.length bc, B⟩], by omega, by omega, by go_num, by rw [encs_snoc]; exact HB10, by simp; omega⟩
            case measure => simp [intOf]; omega
        · have hB4' : (B.length : Int) > 400 := by omega
          go_wp2_with (first
            | (with_reducible refine aw_elem (o := ⟨kd, n, m, .slice bo B.length bc, B⟩) rfl hcr ?_)
            | ((with_reducible refine aw_alloc (dst := some 6) Hi29.out Hz29.out ?_); intro w6 hw6 hk6 hz6; have Hz6 := hide hz6; clear hz6)
            | ((with_reducible refine aw_store (x := .tmp 6) (M := OpV.cells ⟨kd, n, m, .slice bo B.length bc, B⟩) Try.agg29 rfl rfl (OpV.cells_length _) H1.out hw6 (by simp [Value.cells]) ?_); intro w7 hw7 hk7 hz7; rw [put_whole _ _ (by simp [Value.cells, OpV.cells])] at hw7; have Hz7 := hide hz7; clear hz7; have c0 : w7.cell? ⟨wr.heap.size, 0, none⟩ = some (.int .i64 kd) := hw7.cell 0; have c1 : w7.cell? ⟨wr.heap.size, 1, none⟩ = some (.int .i64 n) := hw7.cell 1; have c2 : w7.cell? ⟨wr.heap.size, 2, none⟩ = some (.int .i64 m) := hw7.cell 2; have c3 : w7.cell? ⟨wr.heap.size, 3, none⟩ = some (.slice bo B.length bc) := hw7.cell 3))
          have hkF : Kept (fun _ => False) w w7 := (HB.out.kept.trans hk6 (fun _ _ h => h)).trans hk7 (fun i hi h => by have := HB.out.kept.size; omega)
          go_ret
          exact ⟨rfl, hkF⟩
      · obtain rfl : k = 60 := by omega
        go_wp2_with (first
          | (with_reducible refine aw_elem (o := ⟨kd, n, m, .slice bo B.length bc, B⟩) rfl hcr ?_)
          | ((with_reducible refine aw_alloc (dst := some 6) Hi29.out Hz29.out ?_); intro w6 hw6 hk6 hz6; have Hz6 := hide hz6; clear hz6)
          | ((with_reducible refine aw_store (x := .tmp 6) (M := OpV.cells ⟨kd, n, m, .slice bo B.length bc, B⟩) Try.agg29 rfl rfl (OpV.cells_length _) H1.out hw6 (by simp [Value.cells]) ?_); intro w7 hw7 hk7 hz7; rw [put_whole _ _ (by simp [Value.cells, OpV.cells])] at hw7; have Hz7 := hide hz7; clear hz7; have c0 : w7.cell? ⟨wr.heap.size, 0, none⟩ = some (.int .i64 kd) := hw7.cell 0; have c1 : w7.cell? ⟨wr.heap.size, 1, none⟩ = some (.int .i64 n) := hw7.cell 1; have c2 : w7.cell? ⟨wr.heap.size, 2, none⟩ = some (.int .i64 m) := hw7.cell 2; have c3 : w7.cell? ⟨wr.heap.size, 3, none⟩ = some (.slice bo B.length bc) := hw7.cell 3))
        have hkF : Kept (fun _ => False) w w7 := (HB.out.kept.trans hk6 (fun _ _ h => h)).trans hk7 (fun i hi h => by have := HB.out.kept.size; omega)
        go_ret
        exact ⟨rfl, hkF⟩
    · obtain rfl : k = len := by omega
      skip
      have hDl := HB.out.len
      go_wp2_with fail
      refine (bytes_at wr p u (encs D) HB.out.pen (by omega)).mono ?_
      rintro e w4 ⟨v4, rfl, hs4, hk4⟩
      have HS4 := hide hs4
      clear hs4
      go_wp2_with fail
      refine (new_at w4 v4 (encs D) HS4.out (by omega)).mono ?_
      rintro e w5 ⟨s, v5, rfl, hs5, hk5, hsz⟩
      have HSc0 : Hid (Sc w w5 s v5 (.slice dbo D.length dc) D (encs (D.drop 0))) := hide ⟨by have := HB.out.kept.size; have := hk4.size; omega, (HB.out.kept.trans hk4 (fun _ _ h => h)).trans hk5 (fun _ _ h => h), by rw [List.drop_zero]; exact hs5, (HB.out.done.kept hk4 (fun _ _ h => h)).kept hk5 (fun _ _ h => h)⟩
      have HEach := hide HB.out.each
      clear hs5 hk4 hk5 hsz HB HS4
      go_wp2
      go_loopw [64] (fun i wr => ∃ (k : Nat) (v : Value), k ≤ D.length ∧ i = .int .i64 k ∧ Hid (Sc w wr s v (.slice dbo D.length dc) D (encs (D.drop k)))) (fun i _ => D.length - (intOf i).toNat)
      case atStart => exact ⟨0, _, by omega, rfl, HSc0⟩
      case round =>
        clear HSc0 hlt
        obtain ⟨k, v, hk, rfl, HSc⟩ := hrel
        by_cases hlt : k < D.length
        · obtain ⟨g, e, hcell⟩ := HSc.out.done.elem k hlt
          subst e
          have HEn := hide (encs_drop hlt)
          have hea := HEach.out _ (List.getElem_mem hlt)
          obtain ⟨bo, bc, e⟩ := hea.2.2.slice
          obtain ⟨⟨kd, n, m, vb, B⟩, ho⟩ : ∃ o, D[k] = o := ⟨_, rfl⟩
          rw [ho] at hcell hea e HEn
          simp only at e
          subst e
          have H1 := hide hea.2.2.one
          have HOp := hide hea.2.2
          have hok := hea.1
          have hB4 : B.length ≤ 400 := hea.2.1
          have hbn := hea.2.2.2.2.1
          simp only at hbn
          have Hcr := hide hcell
          clear hcell ho hea
          go_wp2_with (first
            | (with_reducible refine aw_elem (o := ⟨kd, n, m, .slice bo B.length bc, B⟩) rfl Hcr.out ?_)
            | ((with_reducible refine aw_alloc (dst := some 9) Hi29.out Hz29.out ?_); intro w6 hw6 hk6 hz6; have Hz6 := hide hz6; clear hz6)
            | ((with_reducible refine aw_store (x := .tmp 9) (M := OpV.cells ⟨kd, n, m, .slice bo B.length bc, B⟩) Try.agg29 rfl rfl (OpV.cells_length _) H1.out hw6 (by simp [Value.cells]) ?_); intro w7 hw7 hk7 hz7; rw [put_whole _ _ (by simp [Value.cells, OpV.cells])] at hw7; have Hz7 := hide hz7; clear hz7; have c0 : w7.cell? ⟨wr.heap.size, 0, none⟩ = some (.int .i64 kd) := hw7.cell 0; have c1 : w7.cell? ⟨wr.heap.size, 1, none⟩ = some (.int .i64 n) := hw7.cell 1; have c2 : w7.cell? ⟨wr.heap.size, 2, none⟩ = some (.int .i64 m) := hw7.cell 2; have c3 : w7.cell? ⟨wr.heap.size, 3, none⟩ = some (.slice bo B.length bc) := hw7.cell 3))
          have hkk : Kept (fun _ => False) wr w7 := hk6.trans hk7 (fun i hi h => by omega)
          have hSc7 := HSc.out.same hkk
          clear HSc
          have HSc := hide hSc7
          have HW7 := hide hw7
          have hobs : ¬ wr.heap.size = s := fun e => hw7.ne hSc7.scan.1 (by decide) e
          generalize wr.heap.size = ob at *
          have hlen2 : (encs (D.drop k)).length ≤ 402 * D.length := by
            have := encs_le (D.drop k) (fun o ho => ⟨(HEach.out o (List.mem_of_mem_drop ho)).1, (HEach.out o (List.mem_of_mem_drop ho)).2.1⟩)
            simp at this
            omega
          clear hw6 hw7 hk6 hk7 hkk c0 c1 c2 c3 hSc7
          by_cases hev : kd.tmod 2 = 0
          · rw [(OpV.even hev).1] at hok
            have HN : Hid (∀ W, ScanAt W s v (encs (D.drop k)) 0 → Calls Try.prog 17 #[.pointer (some ⟨s, 0, none⟩), .int .i64 m] W fun e w' => ∃ v', e = .returned (.int .i64 n) ∧ ScanAt w' s v' (encs (D.drop (k + 1))) 0 ∧ Kept (fun k => k = s) W w') := hide (fun W h => by
              have hN := snum_at W s v _ 0 h (by omega) m
              rw [HEn.out, (OpV.even hev).2] at hN
              obtain ⟨x, y, e1, e2, h1, h8, hx⟩ := fits_of hok
              subst e1
              subst e2
              simp only [Int.toNat_natCast] at hN
              rw [scanNum_num x y _ h1 h8 hx (by omega)] at hN
              exact hN)
            refine hold_frame (p := fun fr => Code.wp Try.prog _ _ fr _) ?_
            intro fr hfr
            have e7 : fr.eval (.tmp 7) = .pointer (some ⟨s, 0, none⟩) := by rw [hfr.out]; rfl
            have e9 : fr.eval (.tmp 9) = .pointer (some ⟨ob, 0, none⟩) := by rw [hfr.out]; rfl
            have hts : fr.tmps.size = 105 := by rw [hfr.out]; rfl
            refine region_S 99 (fun U => Blk U ob (OpV.cells ⟨kd, n, m, .slice bo B.length bc, B⟩) 29 ∧ Kept (fun _ => False) w U) Try.mixed ?_
            intro w0 hkw hheap
            have hS0 := And.intro (hkw.blk HW7.out (fun h => h)) (HSc.out.kept.trans hkw (fun _ _ h => h))
            refine tkS 0 68 (v := .pointer (some ⟨ob, 0, none⟩)) hS0 rfl rfl (by kernel_rfl) (by kernel_rfl) (by kernel_rfl) (by kernel_rfl) (wanted_none rfl) (fun _ _ _ h => h) (fun U hU => r_fld29_0 (by simp [eval_put_ne, eval_put_eq, size_put, hts, e9])) ?_
            refine tkS 1 69 (v := .int .i64 kd) hS0 rfl rfl (by kernel_rfl) (by kernel_rfl) (by kernel_rfl) (by kernel_rfl) (wanted_none rfl) (fun _ _ _ h => h) (fun U hU => r_ld3 (by simp [eval_put_ne, eval_put_eq, size_put, hts]) (hU.1.cell 0)) ?_
            refine tkS 2 70 (v := .int .i64 (kd.tmod 2)) hS0 rfl rfl (by kernel_rfl) (by kernel_rfl) (by kernel_rfl) (by kernel_rfl) (wanted_none rfl) (fun _ _ _ h => h) (fun U hU => r_rem2 (by simp [eval_put_ne, eval_put_eq, size_put, hts]) rfl) ?_
            refine tkS 3 71 (v := .bool true) hS0 rfl rfl (by kernel_rfl) (by kernel_rfl) (by kernel_rfl) (by kernel_rfl) (wanted_none rfl) (fun _ _ _ h => h) (fun U hU => (r_eql3 (p := kd.tmod 2) (q := 0) (by simp [eval_put_ne, eval_put_eq, size_put, hts]) rfl).trans (by rw [decide_eq_true hev])) ?_
            refine tkS 4 72 (v := .bool true) hS0 rfl rfl (by kernel_rfl) (by kernel_rfl) (by kernel_rfl) (by kernel_rfl) (wanted_none rfl) (fun _ _ _ h => h) (fun U hU => r_move (by simp [eval_put_ne, eval_put_eq, size_put, hts])) ?_
            refine tkS 5 73 (v := .pointer (some ⟨s, 0, none⟩)) hS0 rfl rfl (by kernel_rfl) (by kernel_rfl) (by kernel_rfl) (by kernel_rfl) (wanted_some (j := 4) (d := 72) (bb := true) rfl rfl rfl (by simp [eval_put_ne, eval_put_eq, size_put, hts]) (by simp [size_put, hts])) (fun _ _ _ h => h) (fun U hU => r_move (by simp [eval_put_ne, eval_put_eq, size_put, hts, e7])) ?_
            refine tkS 6 74 (v := .pointer (some ⟨ob, 2, none⟩)) hS0 rfl rfl (by kernel_rfl) (by kernel_rfl) (by kernel_rfl) (by kernel_rfl) (wanted_some (j := 4) (d := 72) (bb := true) rfl rfl rfl (by simp [eval_put_ne, eval_put_eq, size_put, hts]) (by simp [size_put, hts])) (fun _ _ _ h => h) (fun U hU => r_fld29_2 (by simp [eval_put_ne, eval_put_eq, size_put, hts, e9])) ?_
            refine tkS 7 75 (v := .int .i64 m) hS0 rfl rfl (by kernel_rfl) (by kernel_rfl) (by kernel_rfl) (by kernel_rfl) (wanted_some (j := 4) (d := 72) (bb := true) rfl rfl rfl (by simp [eval_put_ne, eval_put_eq, size_put, hts]) (by simp [size_put, hts])) (fun _ _ _ h => h) (fun U hU => r_ld3 (by simp [eval_put_ne, eval_put_eq, size_put, hts]) (hU.1.cell 2)) ?_
            refine tkS 9 77 (v := .pointer (some ⟨ob, 1, none⟩)) hS0 rfl rfl (by kernel_rfl) (by kernel_rfl) (by kernel_rfl) (by kernel_rfl) (wanted_some (j := 4) (d := 72) (bb := true) rfl rfl rfl (by simp [eval_put_ne, eval_put_eq, size_put, hts]) (by simp [size_put, hts])) (fun _ _ _ h => h) (fun U hU => r_fld29_1 (by simp [eval_put_ne, eval_put_eq, size_put, hts, e9])) ?_
            refine tkS 10 78 (v := .int .i64 n) hS0 rfl rfl (by kernel_rfl) (by kernel_rfl) (by kernel_rfl) (by kernel_rfl) (wanted_some (j := 4) (d := 72) (bb := true) rfl rfl rfl (by simp [eval_put_ne, eval_put_eq, size_put, hts]) (by simp [size_put, hts])) (fun _ _ _ h => h) (fun U hU => r_ld3 (by simp [eval_put_ne, eval_put_eq, size_put, hts]) (hU.1.cell 1)) ?_
            refine oneCS 8 76 (by kernel_rfl) rfl rfl (wanted_some (j := 4) (d := 72) (bb := true) rfl rfl rfl (by simp [eval_put_ne, eval_put_eq, size_put, hts]) (by simp [size_put, hts])) (r_call2 Try.func17 (by kernel_rfl) rfl rfl (by simp [eval_put_ne, eval_put_eq, size_put, hts]) (by simp [eval_put_ne, eval_put_eq, size_put, hts])) (HN.out w0 (HSc.out.scan.kept hkw)) ?_
            rintro e w8 ⟨v8, rfl, hs8, hk8⟩
            have hS8 : Blk w8 ob (OpV.cells ⟨kd, n, m, .slice bo B.length bc, B⟩) 29 ∧ Kept (fun _ => False) w w8 := ⟨hk8.blk hS0.1 hobs, hS0.2.trans hk8 (fun i hi e => by have := HSc.out.low; omega)⟩
            refine ⟨_, rfl, hS8, ?_⟩
            refine raiseM (S' := fun U => U = w8) (fun U hU => by rw [hU]; exact hS8) ?_
            have hS9 : (fun U => U = w8) _ := rfl
            refine tkS 11 79 (v := .bool false) hS9 rfl rfl (by kernel_rfl) (by kernel_rfl) (by kernel_rfl) (by kernel_rfl) (wanted_some (j := 4) (d := 72) (bb := true) rfl rfl rfl (by simp [eval_put_ne, eval_put_eq, size_put, hts]) (by simp [size_put, hts])) (fun _ _ _ h => h) (fun U hU => (r_neq3 (p := n) (q := n) (by simp [eval_put_ne, eval_put_eq, size_put, hts]) (by simp [eval_put_ne, eval_put_eq, size_put, hts])).trans (by simp)) ?_
            refine tkS 12 80 (v := .bool false) hS9 rfl rfl (by kernel_rfl) (by kernel_rfl) (by kernel_rfl) (by kernel_rfl) (wanted_none rfl) (fun _ _ _ h => h) (fun U hU => r_pick (by simp [eval_put_ne, eval_put_eq, size_put, hts]) (by simp [eval_put_ne, eval_put_eq, size_put, hts])) ?_
            refine tkS 13 81 (v := .bool false) hS9 rfl rfl (by kernel_rfl) (by kernel_rfl) (by kernel_rfl) (by kernel_rfl) (wanted_none rfl) (fun _ _ _ h => h) (fun U hU => r_move (by simp [eval_put_ne, eval_put_eq, size_put, hts])) ?_
            refine tkS 14 82 (v := .pointer (some ⟨ob, 0, none⟩)) hS9 rfl rfl (by kernel_rfl) (by kernel_rfl) (by kernel_rfl) (by kernel_rfl) (wanted_some (j := 13) (d := 81) (bb := false) rfl rfl rfl (by simp [eval_put_ne, eval_put_eq, size_put, hts]) (by simp [size_put, hts])) (fun _ _ _ h => h) (fun U hU => r_fld29_0 (by simp [eval_put_ne, eval_put_eq, size_put, hts, e9])) ?_
            refine tkS 15 83 (v := .int .i64 kd) hS9 rfl rfl (by kernel_rfl) (by kernel_rfl) (by kernel_rfl) (by kernel_rfl) (wanted_some (j := 13) (d := 81) (bb := false) rfl rfl rfl (by simp [eval_put_ne, eval_put_eq, size_put, hts]) (by simp [size_put, hts])) (fun _ _ _ h => h) (fun U hU => r_ld3 (b := ob) (o := 0) (by simp [eval_put_ne, eval_put_eq, size_put, hts]) (by rw [hU]; exact hS8.1.cell 0)) ?_
            refine tkS 16 84 (v := .int .i64 (kd.tmod 2)) hS9 rfl rfl (by kernel_rfl) (by kernel_rfl) (by kernel_rfl) (by kernel_rfl) (wanted_some (j := 13) (d := 81) (bb := false) rfl rfl rfl (by simp [eval_put_ne, eval_put_eq, size_put, hts]) (by simp [size_put, hts])) (fun _ _ _ h => h) (fun U hU => r_rem2 (by simp [eval_put_ne, eval_put_eq, size_put, hts]) rfl) ?_
            refine tkS 17 85 (v := .bool false) hS9 rfl rfl (by kernel_rfl) (by kernel_rfl) (by kernel_rfl) (by kernel_rfl) (wanted_some (j := 13) (d := 81) (bb := false) rfl rfl rfl (by simp [eval_put_ne, eval_put_eq, size_put, hts]) (by simp [size_put, hts])) (fun _ _ _ h => h) (fun U hU => (r_neq3 (p := kd.tmod 2) (q := 0) (by simp [eval_put_ne, eval_put_eq, size_put, hts]) rfl).trans (by rw [decide_eq_false (fun h => h hev)])) ?_
            refine tkS 18 86 (v := .bool false) hS9 rfl rfl (by kernel_rfl) (by kernel_rfl) (by kernel_rfl) (by kernel_rfl) (wanted_some (j := 13) (d := 81) (bb := false) rfl rfl rfl (by simp [eval_put_ne, eval_put_eq, size_put, hts]) (by simp [size_put, hts])) (fun _ _ _ h => h) (fun U hU => r_move (by simp [eval_put_ne, eval_put_eq, size_put, hts])) ?_
            refine tkNS 19 87 hS9 rfl rfl (by kernel_rfl) (by kernel_rfl) (by kernel_rfl) (by kernel_rfl) (wanted_not (j := 18) (d := 86) (bb := true) rfl rfl rfl (by simp [eval_put_ne, eval_put_eq, size_put, hts]) (by simp [size_put, hts])) (fun _ _ _ h => h) ?_
            refine tkNS 20 88 hS9 rfl rfl (by kernel_rfl) (by kernel_rfl) (by kernel_rfl) (by kernel_rfl) (wanted_not (j := 18) (d := 86) (bb := true) rfl rfl rfl (by simp [eval_put_ne, eval_put_eq, size_put, hts]) (by simp [size_put, hts])) (fun _ _ _ h => h) ?_
            refine tkNS 21 89 hS9 rfl rfl (by kernel_rfl) (by kernel_rfl) (by kernel_rfl) (by kernel_rfl) (wanted_not (j := 18) (d := 86) (bb := true) rfl rfl rfl (by simp [eval_put_ne, eval_put_eq, size_put, hts]) (by simp [size_put, hts])) (fun _ _ _ h => h) ?_
            refine tkNS 22 90 hS9 rfl rfl (by kernel_rfl) (by kernel_rfl) (by kernel_rfl) (by kernel_rfl) (wanted_not (j := 18) (d := 86) (bb := true) rfl rfl rfl (by simp [eval_put_ne, eval_put_eq, size_put, hts]) (by simp [size_put, hts])) (fun _ _ _ h => h) ?_
            refine tkNS 23 91 hS9 rfl rfl (by kernel_rfl) (by kernel_rfl) (by kernel_rfl) (by kernel_rfl) (wanted_not (j := 18) (d := 86) (bb := true) rfl rfl rfl (by simp [eval_put_ne, eval_put_eq, size_put, hts]) (by simp [size_put, hts])) (fun _ _ _ h => h) ?_
            refine tkNS 24 92 hS9 rfl rfl (by kernel_rfl) (by kernel_rfl) (by kernel_rfl) (by kernel_rfl) (wanted_not (j := 18) (d := 86) (bb := true) rfl rfl rfl (by simp [eval_put_ne, eval_put_eq, size_put, hts]) (by simp [size_put, hts])) (fun _ _ _ h => h) ?_
            refine tkNS 25 93 hS9 rfl rfl (by kernel_rfl) (by kernel_rfl) (by kernel_rfl) (by kernel_rfl) (wanted_not (j := 18) (d := 86) (bb := true) rfl rfl rfl (by simp [eval_put_ne, eval_put_eq, size_put, hts]) (by simp [size_put, hts])) (fun _ _ _ h => h) ?_
            refine tkS 26 94 (v := .bool false) hS9 rfl rfl (by kernel_rfl) (by kernel_rfl) (by kernel_rfl) (by kernel_rfl) (wanted_some (j := 13) (d := 81) (bb := false) rfl rfl rfl (by simp [eval_put_ne, eval_put_eq, size_put, hts]) (by simp [size_put, hts])) (fun _ _ _ h => h) (fun U hU => r_pickF (by simp [eval_put_ne, eval_put_eq, size_put, hts]) rfl) ?_
            refine tkS 27 95 (v := .bool false) hS9 rfl rfl (by kernel_rfl) (by kernel_rfl) (by kernel_rfl) (by kernel_rfl) (wanted_none rfl) (fun _ _ _ h => h) (fun U hU => r_pickF (by simp [eval_put_ne, eval_put_eq, size_put, hts]) (by simp [eval_put_ne, eval_put_eq, size_put, hts])) ?_
            refine doneS (by kernel_rfl) ?_
            rw [hfr.out]
            clear hfr e7 e9 hts
            simp only [put_lit, put_none, List.set_cons_succ, List.set_cons_zero]
            have HF := hide ((HSc.out.same hkw).next hs8 hk8)
            clear hs8 hk8 hS8 hS9 hS0 hkw hheap
            go_wp2
            go_roundw
            case rel => exact ⟨k + 1, v8, by omega, by go_num, HF⟩
            case measure => simp [intOf]; omega
          · have HN : Hid (∀ W, ScanAt W s v (encs (D.drop k)) 0 → Calls Try.prog 19 #[.pointer (some ⟨s, 0, none⟩), .int .i64 400] W fun e w' => ∃ vr v', e = .returned vr ∧ Src w' vr B ∧ ScanAt w' s v' (encs (D.drop (k + 1))) 0 ∧ Kept (fun k => k = s) W w') := hide (fun W h => by
              have hN := stext_at W s v _ 0 h (by omega) 400
              rw [HEn.out, (OpV.odd hev).2] at hN
              rw [scanText_text B _ 400 (by omega) (by omega)] at hN
              exact hN)
            refine hold_frame (p := fun fr => Code.wp Try.prog _ _ fr _) ?_
            intro fr hfr
            have e7 : fr.eval (.tmp 7) = .pointer (some ⟨s, 0, none⟩) := by rw [hfr.out]; rfl
            have e9 : fr.eval (.tmp 9) = .pointer (some ⟨ob, 0, none⟩) := by rw [hfr.out]; rfl
            have hts : fr.tmps.size = 105 := by rw [hfr.out]; rfl
            refine region_S 99 (fun U => Blk U ob (OpV.cells ⟨kd, n, m, .slice bo B.length bc, B⟩) 29 ∧ Kept (fun _ => False) w U) Try.mixed ?_
            intro w0 hkw hheap
            have hS0 := And.intro (hkw.blk HW7.out (fun h => h)) (HSc.out.kept.trans hkw (fun _ _ h => h))
            refine tkS 0 68 (v := .pointer (some ⟨ob, 0, none⟩)) hS0 rfl rfl (by kernel_rfl) (by kernel_rfl) (by kernel_rfl) (by kernel_rfl) (wanted_none rfl) (fun _ _ _ h => h) (fun U hU => r_fld29_0 (by simp [eval_put_ne, eval_put_eq, size_put, hts, e9])) ?_
            refine tkS 1 69 (v := .int .i64 kd) hS0 rfl rfl (by kernel_rfl) (by kernel_rfl) (by kernel_rfl) (by kernel_rfl) (wanted_none rfl) (fun _ _ _ h => h) (fun U hU => r_ld3 (by simp [eval_put_ne, eval_put_eq, size_put, hts]) (hU.1.cell 0)) ?_
            refine tkS 2 70 (v := .int .i64 (kd.tmod 2)) hS0 rfl rfl (by kernel_rfl) (by kernel_rfl) (by kernel_rfl) (by kernel_rfl) (wanted_none rfl) (fun _ _ _ h => h) (fun U hU => r_rem2 (by simp [eval_put_ne, eval_put_eq, size_put, hts]) rfl) ?_
            refine tkS 3 71 (v := .bool false) hS0 rfl rfl (by kernel_rfl) (by kernel_rfl) (by kernel_rfl) (by kernel_rfl) (wanted_none rfl) (fun _ _ _ h => h) (fun U hU => (r_eql3 (p := kd.tmod 2) (q := 0) (by simp [eval_put_ne, eval_put_eq, size_put, hts]) rfl).trans (by rw [decide_eq_false hev])) ?_
            refine tkS 4 72 (v := .bool false) hS0 rfl rfl (by kernel_rfl) (by kernel_rfl) (by kernel_rfl) (by kernel_rfl) (wanted_none rfl) (fun _ _ _ h => h) (fun U hU => r_move (by simp [eval_put_ne, eval_put_eq, size_put, hts])) ?_
            refine tkNS 5 73 hS0 rfl rfl (by kernel_rfl) (by kernel_rfl) (by kernel_rfl) (by kernel_rfl) (wanted_not (j := 4) (d := 72) (bb := true) rfl rfl rfl (by simp [eval_put_ne, eval_put_eq, size_put, hts]) (by simp [size_put, hts])) (fun _ _ _ h => h) ?_
            refine tkNS 6 74 hS0 rfl rfl (by kernel_rfl) (by kernel_rfl) (by kernel_rfl) (by kernel_rfl) (wanted_not (j := 4) (d := 72) (bb := true) rfl rfl rfl (by simp [eval_put_ne, eval_put_eq, size_put, hts]) (by simp [size_put, hts])) (fun _ _ _ h => h) ?_
            refine tkNS 7 75 hS0 rfl rfl (by kernel_rfl) (by kernel_rfl) (by kernel_rfl) (by kernel_rfl) (wanted_not (j := 4) (d := 72) (bb := true) rfl rfl rfl (by simp [eval_put_ne, eval_put_eq, size_put, hts]) (by simp [size_put, hts])) (fun _ _ _ h => h) ?_
            refine tkNS 8 76 hS0 rfl rfl (by kernel_rfl) (by kernel_rfl) (by kernel_rfl) (by kernel_rfl) (wanted_not (j := 4) (d := 72) (bb := true) rfl rfl rfl (by simp [eval_put_ne, eval_put_eq, size_put, hts]) (by simp [size_put, hts])) (fun _ _ _ h => h) ?_
            refine tkNS 9 77 hS0 rfl rfl (by kernel_rfl) (by kernel_rfl) (by kernel_rfl) (by kernel_rfl) (wanted_not (j := 4) (d := 72) (bb := true) rfl rfl rfl (by simp [eval_put_ne, eval_put_eq, size_put, hts]) (by simp [size_put, hts])) (fun _ _ _ h => h) ?_
            refine tkNS 10 78 hS0 rfl rfl (by kernel_rfl) (by kernel_rfl) (by kernel_rfl) (by kernel_rfl) (wanted_not (j := 4) (d := 72) (bb := true) rfl rfl rfl (by simp [eval_put_ne, eval_put_eq, size_put, hts]) (by simp [size_put, hts])) (fun _ _ _ h => h) ?_
            refine tkNS 11 79 hS0 rfl rfl (by kernel_rfl) (by kernel_rfl) (by kernel_rfl) (by kernel_rfl) (wanted_not (j := 4) (d := 72) (bb := true) rfl rfl rfl (by simp [eval_put_ne, eval_put_eq, size_put, hts]) (by simp [size_put, hts])) (fun _ _ _ h => h) ?_
            refine tkS 12 80 (v := .bool false) hS0 rfl rfl (by kernel_rfl) (by kernel_rfl) (by kernel_rfl) (by kernel_rfl) (wanted_none rfl) (fun _ _ _ h => h) (fun U hU => r_pickF (by simp [eval_put_ne, eval_put_eq, size_put, hts]) rfl) ?_
            refine tkS 13 81 (v := .bool false) hS0 rfl rfl (by kernel_rfl) (by kernel_rfl) (by kernel_rfl) (by kernel_rfl) (wanted_none rfl) (fun _ _ _ h => h) (fun U hU => r_move (by simp [eval_put_ne, eval_put_eq, size_put, hts])) ?_
            refine tkS 14 82 (v := .pointer (some ⟨ob, 0, none⟩)) hS0 rfl rfl (by kernel_rfl) (by kernel_rfl) (by kernel_rfl) (by kernel_rfl) (wanted_some (j := 13) (d := 81) (bb := false) rfl rfl rfl (by simp [eval_put_ne, eval_put_eq, size_put, hts]) (by simp [size_put, hts])) (fun _ _ _ h => h) (fun U hU => r_fld29_0 (by simp [eval_put_ne, eval_put_eq, size_put, hts, e9])) ?_
            refine tkS 15 83 (v := .int .i64 kd) hS0 rfl rfl (by kernel_rfl) (by kernel_rfl) (by kernel_rfl) (by kernel_rfl) (wanted_some (j := 13) (d := 81) (bb := false) rfl rfl rfl (by simp [eval_put_ne, eval_put_eq, size_put, hts]) (by simp [size_put, hts])) (fun _ _ _ h => h) (fun U hU => r_ld3 (by simp [eval_put_ne, eval_put_eq, size_put, hts]) (hU.1.cell 0)) ?_
            refine tkS 16 84 (v := .int .i64 (kd.tmod 2)) hS0 rfl rfl (by kernel_rfl) (by kernel_rfl) (by kernel_rfl) (by kernel_rfl) (wanted_some (j := 13) (d := 81) (bb := false) rfl rfl rfl (by simp [eval_put_ne, eval_put_eq, size_put, hts]) (by simp [size_put, hts])) (fun _ _ _ h => h) (fun U hU => r_rem2 (by simp [eval_put_ne, eval_put_eq, size_put, hts]) rfl) ?_
            refine tkS 17 85 (v := .bool true) hS0 rfl rfl (by kernel_rfl) (by kernel_rfl) (by kernel_rfl) (by kernel_rfl) (wanted_some (j := 13) (d := 81) (bb := false) rfl rfl rfl (by simp [eval_put_ne, eval_put_eq, size_put, hts]) (by simp [size_put, hts])) (fun _ _ _ h => h) (fun U hU => (r_neq3 (p := kd.tmod 2) (q := 0) (by simp [eval_put_ne, eval_put_eq, size_put, hts]) rfl).trans (by rw [decide_eq_true hev])) ?_
            refine tkS 18 86 (v := .bool true) hS0 rfl rfl (by kernel_rfl) (by kernel_rfl) (by kernel_rfl) (by kernel_rfl) (wanted_some (j := 13) (d := 81) (bb := false) rfl rfl rfl (by simp [eval_put_ne, eval_put_eq, size_put, hts]) (by simp [size_put, hts])) (fun _ _ _ h => h) (fun U hU => r_move (by simp [eval_put_ne, eval_put_eq, size_put, hts])) ?_
            refine tkS 19 87 (v := .pointer (some ⟨s, 0, none⟩)) hS0 rfl rfl (by kernel_rfl) (by kernel_rfl) (by kernel_rfl) (by kernel_rfl) (wanted_some (j := 18) (d := 86) (bb := true) rfl rfl rfl (by simp [eval_put_ne, eval_put_eq, size_put, hts]) (by simp [size_put, hts])) (fun _ _ _ h => h) (fun U hU => r_move (by simp [eval_put_ne, eval_put_eq, size_put, hts, e7])) ?_
            refine tkS 22 90 (v := .pointer (some ⟨ob, 3, none⟩)) hS0 rfl rfl (by kernel_rfl) (by kernel_rfl) (by kernel_rfl) (by kernel_rfl) (wanted_some (j := 18) (d := 86) (bb := true) rfl rfl rfl (by simp [eval_put_ne, eval_put_eq, size_put, hts]) (by simp [size_put, hts])) (fun _ _ _ h => h) (fun U hU => r_fld29_3 (by simp [eval_put_ne, eval_put_eq, size_put, hts, e9])) ?_
            refine tkS 23 91 (v := .slice bo B.length bc) hS0 rfl rfl (by kernel_rfl) (by kernel_rfl) (by kernel_rfl) (by kernel_rfl) (wanted_some (j := 18) (d := 86) (bb := true) rfl rfl rfl (by simp [eval_put_ne, eval_put_eq, size_put, hts]) (by simp [size_put, hts])) (fun _ _ _ h => h) (fun U hU => r_ld25 (by simp [eval_put_ne, eval_put_eq, size_put, hts]) (hU.1.cell 3)) ?_
            refine tkS 24 92 (v := .string (strN B)) hS0 rfl rfl (by kernel_rfl) (by kernel_rfl) (by kernel_rfl) (by kernel_rfl) (wanted_some (j := 18) (d := 86) (bb := true) rfl rfl rfl (by simp [eval_put_ne, eval_put_eq, size_put, hts]) (by simp [size_put, hts])) (fun _ _ _ h => h) (fun U hU => r_strS (by simp [eval_put_ne, eval_put_eq, size_put, hts]) (HOp.out.1.kept hU.2)) ?_
            refine oneCS 20 88 (by kernel_rfl) rfl rfl (wanted_some (j := 18) (d := 86) (bb := true) rfl rfl rfl (by simp [eval_put_ne, eval_put_eq, size_put, hts]) (by simp [size_put, hts])) (r_call2 Try.func19 (by kernel_rfl) rfl rfl (by simp [eval_put_ne, eval_put_eq, size_put, hts]) rfl) (HN.out w0 (HSc.out.scan.kept hkw)) ?_
            rintro e w8 ⟨vr, v8, rfl, hsr, hs8, hk8⟩
            have hS8 : Blk w8 ob (OpV.cells ⟨kd, n, m, .slice bo B.length bc, B⟩) 29 ∧ Kept (fun _ => False) w w8 := ⟨hk8.blk hS0.1 hobs, hS0.2.trans hk8 (fun i hi e => by have := HSc.out.low; omega)⟩
            refine ⟨_, rfl, hS8, ?_⟩
            refine raiseM (S' := fun U => U = w8) (fun U hU => by rw [hU]; exact hS8) ?_
            have hS9 : (fun U => U = w8) _ := rfl
            refine tkS 21 89 (v := .string (strN B)) hS9 rfl rfl (by kernel_rfl) (by kernel_rfl) (by kernel_rfl) (by kernel_rfl) (wanted_some (j := 18) (d := 86) (bb := true) rfl rfl rfl (by simp [eval_put_ne, eval_put_eq, size_put, hts]) (by simp [size_put, hts])) (fun _ _ _ h => h) (fun U hU => r_strS (v := vr) (by simp [eval_put_ne, eval_put_eq, size_put, hts]) (by rw [hU]; exact hsr)) ?_
            refine tkS 25 93 (v := .bool false) hS9 rfl rfl (by kernel_rfl) (by kernel_rfl) (by kernel_rfl) (by kernel_rfl) (wanted_some (j := 18) (d := 86) (bb := true) rfl rfl rfl (by simp [eval_put_ne, eval_put_eq, size_put, hts]) (by simp [size_put, hts])) (fun _ _ _ h => h) (fun U hU => (r_neq9 (p := strN B) (q := strN B) (by simp [eval_put_ne, eval_put_eq, size_put, hts]) (by simp [eval_put_ne, eval_put_eq, size_put, hts])).trans (by simp)) ?_
            refine tkS 26 94 (v := .bool false) hS9 rfl rfl (by kernel_rfl) (by kernel_rfl) (by kernel_rfl) (by kernel_rfl) (wanted_some (j := 13) (d := 81) (bb := false) rfl rfl rfl (by simp [eval_put_ne, eval_put_eq, size_put, hts]) (by simp [size_put, hts])) (fun _ _ _ h => h) (fun U hU => r_pick (by simp [eval_put_ne, eval_put_eq, size_put, hts]) (by simp [eval_put_ne, eval_put_eq, size_put, hts])) ?_
            refine tkS 27 95 (v := .bool false) hS9 rfl rfl (by kernel_rfl) (by kernel_rfl) (by kernel_rfl) (by kernel_rfl) (wanted_none rfl) (fun _ _ _ h => h) (fun U hU => r_pickF (by simp [eval_put_ne, eval_put_eq, size_put, hts]) (by simp [eval_put_ne, eval_put_eq, size_put, hts])) ?_
            refine doneS (by kernel_rfl) ?_
            rw [hfr.out]
            clear hfr e7 e9 hts
            simp only [put_lit, put_none, List.set_cons_succ, List.set_cons_zero]
            have HF := hide ((HSc.out.same hkw).next hs8 hk8)
            clear hs8 hk8 hS8 hS9 hS0 hkw hheap
            go_wp2
            go_roundw
            case rel => exact ⟨k + 1, v8, by omega, by go_num, HF⟩
            case measure => simp [intOf]; omega
        · obtain rfl : k = D.length := by omega
          have hSc := HSc.out
          rw [List.drop_length] at hSc
          clear HSc
          have HSc := hide hSc
          clear hSc
          have hkF := HSc.out.kept
          go_wp2_with fail
          refine (err_at wr s v _ 0 HSc.out.scan).mono ?_
          rintro e w9 ⟨rfl, rfl⟩
          go_wp2_with fail
          refine (left_at wr s v _ 0 HSc.out.scan).mono ?_
          rintro e w9 ⟨rfl, rfl⟩
          rw [show (encs []).length = 0 from rfl]
          go_wp2
          go_ret
          exact ⟨rfl, hkF⟩

end Go.Proofs.Yteffiglfeenokaa
