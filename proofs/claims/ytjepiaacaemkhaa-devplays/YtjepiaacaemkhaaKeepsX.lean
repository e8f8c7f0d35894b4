/-
  The walk of DevKeeps: it answers true, and touches nothing that was there.
-/
import Derived.Test.YtjepiaacaemkhaaKeepsW
namespace Go.Proofs.Ytjepiaacaemkhaa
open Go.RowKit Go.Shelf
set_option linter.unusedSimpArgs false
set_option linter.unusedVariables false

theorem sec_whole (A : List Value) (h : A.length = 64) : sec A 0 = A := by
  unfold sec; rw [Nat.mul_zero, List.drop_zero]; exact List.take_of_length_le (by omega)

theorem put_mid (L M : List Value) (hL : L.length = 256) (hM : M.length = 64) : ((put L 64 M).drop 64).take 64 = M ∧ (put L 64 M).drop 128 = L.drop 128 ∧ (put L 64 M).length = 256 := by
  refine ⟨?_, ?_, by rw [length_put _ _ _ (by omega)]; exact hL⟩
  · unfold put
    rw [List.append_assoc, List.drop_append, List.drop_eq_nil_of_le (by simp; omega)]
    simp [hL, hM]
  · unfold put
    rw [List.drop_append, List.drop_eq_nil_of_le (by simp; omega)]
    simp [hL, hM]

theorem put_defers (a : Act) (d : Option Nat) (v : Value) : (a.put d v).defers = a.defers := by cases d <;> rfl
theorem abs1 {p : Act → Prop} {a : Act} (i n : Nat) {v : Value} {ds : List Deferred} (h1 : a.eval (.tmp i) = v) (hs : a.tmps.size = n) (hd : a.defers = ds) (h : ∀ a' : Act, a'.eval (.tmp i) = v → a'.tmps.size = n → a'.defers = ds → p a') : p a := h a h1 hs hd
theorem abs5 {p : Act → Prop} {a : Act} (i1 i2 i3 i4 i5 n : Nat) {v1 v2 v3 v4 v5 : Value} {ds : List Deferred} (h1 : a.eval (.tmp i1) = v1) (h2 : a.eval (.tmp i2) = v2) (h3 : a.eval (.tmp i3) = v3) (h4 : a.eval (.tmp i4) = v4) (h5 : a.eval (.tmp i5) = v5) (hs : a.tmps.size = n) (hd : a.defers = ds)
    (h : ∀ a' : Act, a'.eval (.tmp i1) = v1 → a'.eval (.tmp i2) = v2 → a'.eval (.tmp i3) = v3 → a'.eval (.tmp i4) = v4 → a'.eval (.tmp i5) = v5 → a'.tmps.size = n → a'.defers = ds → p a') : p a := h a h1 h2 h3 h4 h5 hs hd

set_option maxRecDepth 100000 in
set_option maxHeartbeats 4000000 in
theorem keeps_any (w : World) (A B : List Value) (keep : Bool) (hA : A.length = 64) (hB : B.length = 64) (hAb : ∀ v ∈ A, isByte v) (hBb : ∀ v ∈ B, isByte v) :
    Calls Try.prog 4 #[.agg A.toArray, .agg B.toArray, .bool keep] w fun e w' => e = .returned (.bool true) ∧ Kept (fun _ => False) w w' := by
  have HA := hide hA
  have HB := hide hB
  have HAb := hide hAb
  have HBb := hide hBb
  obtain ⟨x0, hx0, hx1, hx2⟩ : ∃ n : Int, A[0]? = some (.int .u8 n) ∧ 0 ≤ n ∧ n < 256 := by
    obtain ⟨n, h1, h2, h3⟩ := hAb A[0] (List.getElem_mem (by omega))
    exact ⟨n, by rw [List.getElem?_eq_getElem (by omega), h1], h2, h3⟩
  have HX := hide hx0
  clear hA hB hAb hBb hx0
  go_enter Try.func4, Try.ntmps4
  go_wp2_with (first
    | ((with_reducible refine aw_box (dst := some 3) rfl ?_); intro w1 hw1 hk1 hz1; have Hz1 := hide hz1; clear hz1)
    | ((with_reducible refine aw_box (dst := some 4) rfl ?_); intro w2 hw2 hk2 hz2; have Hz2 := hide hz2; clear hz2))
  refine (first_any w2).mono ?_
  rintro e w3 ⟨rfl, hk3⟩
  have hwA : Blk w3 w.heap.size A 54 := hk3.blk (hk2.blk hw1 (fun h => h)) (fun h => h)
  have hwB : Blk w3 w1.heap.size B 54 := hk3.blk hw2 (fun h => h)
  have hk03 : Kept (fun _ => False) w w3 := (hk1.trans hk2 (fun _ _ h => h)).trans hk3 (fun _ _ h => h)
  have c0 : w3.cell? ⟨w.heap.size, 0, none⟩ = some (.int .u8 x0) := (hwA.cell 0).trans HX.out
  have HK03 := hide hk03
  clear hw1 hw2 hk1 hk2 hk3 hk03
  go_wp2_with fail
  refine (Dv.new w w3 4 (by decide) (by decide) HK03.out [(w.heap.size, A, 54), (w1.heap.size, B, 54)] (by
    intro x hx
    rcases List.mem_cons.1 hx with rfl | hx
    · exact hwA
    · rcases List.mem_cons.1 hx with rfl | hx
      · exact hwB
      · cases hx)).mono ?_
  rintro e w4 ⟨d, rfl, h4⟩
  clear hwA hwB c0
  go_wp2_with fail
  refine (h4.write 1 1 64 w.heap.size 0 A A 54 (by simp) (by rw [List.drop_zero]; exact List.take_of_length_le (by rw [HA.out]; decide)) (by rw [HA.out]) HAb.out (by decide) (by decide) rfl (by show (-1 : Int) ≠ 0; decide) (by show (0 : Nat) < _; decide) (by show (0 : Nat) + 1 < _; decide)).mono ?_
  rintro e w5 ⟨rfl, h5⟩
  go_wp2_with fail
  refine (h5.flush (by show (1 : Nat) < _; decide)).mono ?_
  rintro e w6 ⟨he, h6⟩
  obtain rfl : e = .returned (.int .i64 0) := he.trans rfl
  clear he
  go_wp2_with fail
  refine (h6.write 1 1 64 w1.heap.size 0 B B 54 (by simp) (by rw [List.drop_zero]; exact List.take_of_length_le (by rw [HB.out]; decide)) (by rw [HB.out]) HBb.out (by decide) (by decide) rfl (by show (-1 : Int) ≠ 0; decide) (by show (2 : Nat) < _; decide) (by show (0 : Nat) + 1 < _; decide)).mono ?_
  rintro e w7 ⟨rfl, h7⟩
  go_wp2_with fail
  refine (h7.write 2 1 64 w1.heap.size 0 B B 54 (by simp) (by rw [List.drop_zero]; exact List.take_of_length_le (by rw [HB.out]; decide)) (by rw [HB.out]) HBb.out (by decide) (by decide) rfl (by show (-1 : Int) ≠ 0; decide) (by show (3 : Nat) < _; decide) (by show (1 : Nat) + 1 < _; decide)).mono ?_
  rintro e w8 ⟨rfl, h8⟩
  have h8' : Dv w w8 d 4 (k4 A B) [(w.heap.size, A, 54), (w1.heap.size, B, 54)] := h8
  clear h4 h5 h6 h7 h8
  go_wp2_with fail
  refine (h8'.limit (x0 % 3) (by omega)).mono ?_
  rintro e w9 ⟨rfl, h9⟩
  have h9' : Dv w w9 d 4 (wrN A 0 (k5 A B (x0 % 3))) [(w.heap.size, A, 54), (w1.heap.size, B, 54)] := h9
  clear h8' h9
  have hws : (k5 A B (x0 % 3)).ws.length = 2 := rfl
  have hcs : (k5 A B (x0 % 3)).calls = 4 := rfl
  have HWS := hide hws
  have HCS := hide hcs
  clear hws hcs
  go_wp2_with fail
  go_loopw [48] (fun i wr => ∃ k : Nat, k ≤ 4 ∧ i = .int .i64 k ∧ Dv w wr d 4 (wrN A k (k5 A B (x0 % 3))) [(w.heap.size, A, 54), (w1.heap.size, B, 54)]) (fun i _ => 4 - (intOf i).toNat)
  case atStart => exact ⟨0, by decide, rfl, h9'⟩
  case round =>
    obtain ⟨k, hk, rfl, h10⟩ := hrel
    clear h9'
    by_cases hlt : k < 4
    · have hle := wrN_le A (k5 A B (x0 % 3)) k
      rw [HWS.out, HCS.out] at hle
      have HLe := hide hle
      clear hle
      go_wp2_with fail
      refine (h10.write3 w.heap.size 64 A 54 (by simp) HA.out HAb.out (by decide) (by have := HLe.out.2; omega) (by have := HLe.out.1; omega)).mono ?_
      rintro e w11 ⟨v, rfl, h11⟩
      go_wp2
      go_roundw
      case rel => exact ⟨k + 1, by omega, by go_num, h11⟩
      case measure => simp [intOf]; omega
    · obtain rfl : k = 4 := by omega
      have h11 : Dv w wr d 4 (k6 A B (x0 % 3)) [(w.heap.size, A, 54), (w1.heap.size, B, 54)] := h10
      have hL : x0 % 3 = 0 ∨ x0 % 3 = 1 ∨ x0 % 3 = 2 := by omega
      have hko := k6_off A B (x0 % 3) hL
      have hkst := k7_st A B (x0 % 3) keep hL
      have HL := hide hL
      have HKO := hide hko
      have HKST := hide hkst
      clear h10 hL hko hkst
      go_wp2_with fail
      refine h11.isOff.mono ?_
      rintro e w' ⟨rfl, rfl⟩
      rw [HKO.out]
      go_wp2_with fail
      have h12 := h11.more (Kept.alloc (fun _ => False) wr (.cells #[.bool keep] 4)) wr.heap.size [.bool keep] 4 (Blk.newA wr _ 4) (Nat.le_refl _)
      refine (h12.crash wr.heap.size 1 [keep] 4 (by simp) (by simp)).mono ?_
      rintro e w13 ⟨rfl, h13⟩
      clear h11 h12
      go_wp2_with fail
      refine (h13.read 0 4 rfl (by decide)).mono ?_
      rintro e w14 ⟨gx, rfl, h14⟩
      clear h13
      obtain ⟨X, hX⟩ : ∃ X, X = (k7 A B (x0 % 3) keep).st := ⟨_, rfl⟩
      have hpX : part (DS.view ((k6 A B (x0 % 3)).crashed [keep])) 0 4 = X := by
        rw [hX]
        show (((k7 A B (x0 % 3) keep).st).drop 0).take (64 * 4) = _
        rw [List.drop_zero, List.take_of_length_le]
        rw [HKST.out]
        split <;> simp [put, HA.out, HB.out, sec]
      rw [hpX] at h14
      have hXs : ((X.drop 64).take 64 = if keep then B else A) ∧ X.drop 128 = List.replicate 128 (.int .u8 0) ∧ X.length = 256 := by
        rw [hX, HKST.out, sec_whole A HA.out, sec_whole B HB.out]
        have p1 := put_mid (List.replicate (4 * 64) (.int .u8 0)) A (by simp) HA.out
        cases keep
        · refine ⟨p1.1, p1.2.1.trans (by simp), p1.2.2⟩
        · have p2 := put_mid (put (List.replicate (4 * 64) (.int .u8 0)) 64 A) B p1.2.2 HB.out
          exact ⟨p2.1, (p2.2.1.trans p1.2.1).trans (by simp), p2.2.2⟩
      have HXs := hide hXs
      have HXe := hide hX
      clear hpX hX hXs
      obtain ⟨i54, hi54, hz54, hs54, hb54⟩ := info_parts Try.info54
      have Hi54 := hide hi54
      have Hz54 := hide hz54
      clear hi54 hz54 hs54 hb54
      have hA14 := h14.blk (w.heap.size, A, 54) (by simp)
      have hB14 := h14.blk (w1.heap.size, B, 54) (by simp)
      have HA1 : Hid (∀ v ∈ A, v.oneCell' = true) := hide (fun v hv => (HAb.out v hv).one)
      have HB1 : Hid (∀ v ∈ B, v.oneCell' = true) := hide (fun v hv => (HBb.out v hv).one)
      have HA2 : Hid ((A.drop 0).take 64 = A) := hide (by rw [List.drop_zero]; exact List.take_of_length_le (by rw [HA.out]; decide))
      have HB2 : Hid ((B.drop 0).take 64 = B) := hide (by rw [List.drop_zero]; exact List.take_of_length_le (by rw [HB.out]; decide))
      have HA3 : Hid (0 + 64 ≤ A.length) := hide (by rw [HA.out]; decide)
      have HB3 : Hid (0 + 64 ≤ B.length) := hide (by rw [HB.out]; decide)
      cases keep
      · go_wp2_with (first
          | ((with_reducible refine aw_load Try.agg54 rfl hA14 HA3.out HA2.out ?_))
          | ((with_reducible refine aw_alloc Hi54.out Hz54.out ?_); intro w15 hw15 hk15 hz15; have Hz15 := hide hz15; clear hz15)
          | ((with_reducible refine aw_store Try.agg54 rfl rfl HA.out HA1.out hw15 (by simp [Value.cells]) ?_); intro w16 hw16 hk16 hz16; rw [put_whole _ _ (by rw [HA.out]; simp [Value.cells])] at hw16; have Hz16 := hide hz16; clear hz16))
        have hkk : Kept (fun _ => False) w14 w16 := hk15.trans hk16 (fun i hi h => by omega)
        have h16 := h14.more hkk w14.heap.size A 54 hw16 (Nat.le_refl _)
        have HXM : (X.drop 64).take 64 = A := HXs.out.1
        have HXZ : (X.drop 128).take 128 = List.replicate 128 (.int .u8 0) := by rw [HXs.out.2.1]; simp
        have HMM : (A.drop 0).take 64 = A := HA2.out
        have hZb : ∀ v ∈ List.replicate 128 (Value.int .u8 0), isByte v := fun v hv => by rw [List.eq_of_mem_replicate hv]; exact isByte.zero
        obtain ⟨i5, hi5, hz5, hs5, hb5⟩ := info_parts Try.info5
        refine abs5 (p := fun a => Code.wp Try.prog _ _ a _) 8 10 11 12 13 99 (v1 := .pointer (some ⟨d, 0, none⟩)) (v2 := .bool true) (v3 := .slice (some ⟨gx, 0, none⟩) 256 256) (v4 := .int .i64 0) (v5 := .pointer (some ⟨w14.heap.size, 0, none⟩)) rfl rfl rfl rfl rfl rfl rfl ?_
        intro a' e8 e10 e11 e12 e13 hts hdf
        refine region_held (S := fun U => Blk U gx X 5 ∧ Blk U w14.heap.size A 54) Try.mixed ?_
        intro w17 hk17 hheap
        have h17 := h16.same hk17
        have hS : Blk w17 gx X 5 ∧ Blk w17 w14.heap.size A 54 := ⟨h17.blk (gx, X, 5) (by simp), h17.blk (w14.heap.size, A, 54) (by simp)⟩
        have h18 := h17.more (Kept.alloc (fun _ => False) w17 (.cells (List.replicate (128 * 1) (Value.int .u8 0)).toArray 5)) w17.heap.size (List.replicate 128 (.int .u8 0)) 5 (Blk.new w17 _ 5) (Nat.le_refl _)
        have hS1 : Blk (w17.alloc (.cells (List.replicate (128 * 1) (Value.int .u8 0)).toArray 5)) gx X 5 ∧ Blk (w17.alloc (.cells (List.replicate (128 * 1) (Value.int .u8 0)).toArray 5)) w14.heap.size A 54 := ⟨h18.blk (gx, X, 5) (by simp), h18.blk (w14.heap.size, A, 54) (by simp)⟩
        have hZc : Cells (w17.alloc (.cells (List.replicate (128 * 1) (Value.int .u8 0)).toArray 5)) w17.heap.size 0 (List.replicate 128 (.int .u8 0)) := by
          have := (Blk.new w17 (List.replicate 128 (.int .u8 0)) 5).cells 0 128
          simpa using this
        have HOff : Calls Try.prog 18 #[.pointer (some ⟨d, 0, none⟩)] (w17.alloc (.cells (List.replicate (128 * 1) (Value.int .u8 0)).toArray 5)) fun e w' => e = .returned (.bool false) ∧ (w17.alloc (.cells (List.replicate (128 * 1) (Value.int .u8 0)).toArray 5)) = w' := h18.isOff
        have HWait : Calls Try.prog 15 #[.pointer (some ⟨d, 0, none⟩)] (w17.alloc (.cells (List.replicate (128 * 1) (Value.int .u8 0)).toArray 5)) fun e w' => e = .returned (.int .i64 0) ∧ (w17.alloc (.cells (List.replicate (128 * 1) (Value.int .u8 0)).toArray 5)) = w' := h18.waiting
        refine tk 0 (v := (.bool true)) rfl (by kernel_rfl) (by kernel_rfl) (by kernel_rfl) (wanted_none rfl) (fun _ _ _ h => h) hS (fun U hU => r_move (by simp [eval_put_ne, eval_put_eq, size_put, hts, e10])) ?_
        refine tk 1 (v := (.bool true)) rfl (by kernel_rfl) (by kernel_rfl) (by kernel_rfl) (wanted_none rfl) (fun _ _ _ h => h) hS (fun U hU => r_move (by simp [eval_put_ne, eval_put_eq, size_put, hts])) ?_
        refine tk 2 (v := (.int .i64 0)) rfl (by kernel_rfl) (by kernel_rfl) (by kernel_rfl) (wanted_some (j := 1) (d := 69) (bb := true) rfl rfl rfl (by simp [eval_put_ne, eval_put_eq, size_put, hts]) (by simp [size_put, hts])) (fun _ _ _ h => h) hS (fun U hU => r_move (by simp [eval_put_ne, eval_put_eq, size_put, hts, e12])) ?_
        refine tk 3 (v := (.bool true)) rfl (by kernel_rfl) (by kernel_rfl) (by kernel_rfl) (wanted_some (j := 1) (d := 69) (bb := true) rfl rfl rfl (by simp [eval_put_ne, eval_put_eq, size_put, hts]) (by simp [size_put, hts])) (fun _ _ _ h => h) hS (fun U hU => r_eql25 (i := 0) (by simp [eval_put_ne, eval_put_eq, size_put, hts]) rfl) ?_
        refine tk 4 (v := (.bool true)) rfl (by kernel_rfl) (by kernel_rfl) (by kernel_rfl) (wanted_none rfl) (fun _ _ _ h => h) hS (fun U hU => r_pick (by simp [eval_put_ne, eval_put_eq, size_put, hts]) (by simp [eval_put_ne, eval_put_eq, size_put, hts])) ?_
        refine tk 5 (v := (.bool true)) rfl (by kernel_rfl) (by kernel_rfl) (by kernel_rfl) (wanted_none rfl) (fun _ _ _ h => h) hS (fun U hU => r_move (by simp [eval_put_ne, eval_put_eq, size_put, hts])) ?_
        refine tk 6 (v := (.slice (some ⟨gx, 0, none⟩) 256 256)) rfl (by kernel_rfl) (by kernel_rfl) (by kernel_rfl) (wanted_some (j := 5) (d := 73) (bb := true) rfl rfl rfl (by simp [eval_put_ne, eval_put_eq, size_put, hts]) (by simp [size_put, hts])) (fun _ _ _ h => h) hS (fun U hU => r_move (by simp [eval_put_ne, eval_put_eq, size_put, hts, e11])) ?_
        refine tk 7 (v := (.slice (some ⟨gx, 64, none⟩) 64 192)) rfl (by kernel_rfl) (by kernel_rfl) (by kernel_rfl) (wanted_some (j := 5) (d := 73) (bb := true) rfl rfl rfl (by simp [eval_put_ne, eval_put_eq, size_put, hts]) (by simp [size_put, hts])) (fun _ _ _ h => h) hS (fun U hU => r_slice2 (off := 0) (len := 256) (cap := 256) (l := 64) (h := 128) (by simp [eval_put_ne, eval_put_eq, size_put, hts]) rfl rfl (by decide) (by decide) (by decide)) ?_
        refine tk 8 (v := (.string (strV A))) rfl (by kernel_rfl) (by kernel_rfl) (by kernel_rfl) (wanted_some (j := 5) (d := 73) (bb := true) rfl rfl rfl (by simp [eval_put_ne, eval_put_eq, size_put, hts]) (by simp [size_put, hts])) (fun _ _ _ h => h) hS (fun U hU => r_str (b := gx) (so := 64) (len := 64) (cap := 192) (by simp [eval_put_ne, eval_put_eq, size_put, hts]) (HXM ▸ hU.1.cells 64 64) HA.out HAb.out) ?_
        refine tk 9 (v := (.slice (some ⟨w14.heap.size, 0, none⟩) 64 64)) rfl (by kernel_rfl) (by kernel_rfl) (by kernel_rfl) (wanted_some (j := 5) (d := 73) (bb := true) rfl rfl rfl (by simp [eval_put_ne, eval_put_eq, size_put, hts]) (by simp [size_put, hts])) (fun _ _ _ h => h) hS (fun U hU => r_slice54 (by simp [eval_put_ne, eval_put_eq, size_put, hts, e13])) ?_
        refine tk 10 (v := (.string (strV A))) rfl (by kernel_rfl) (by kernel_rfl) (by kernel_rfl) (wanted_some (j := 5) (d := 73) (bb := true) rfl rfl rfl (by simp [eval_put_ne, eval_put_eq, size_put, hts]) (by simp [size_put, hts])) (fun _ _ _ h => h) hS (fun U hU => r_str (b := w14.heap.size) (so := 0) (len := 64) (cap := 64) (by simp [eval_put_ne, eval_put_eq, size_put, hts]) (HMM ▸ hU.2.cells 0 64) HA.out HAb.out) ?_
        refine tk 11 (v := (.bool true)) rfl (by kernel_rfl) (by kernel_rfl) (by kernel_rfl) (wanted_some (j := 5) (d := 73) (bb := true) rfl rfl rfl (by simp [eval_put_ne, eval_put_eq, size_put, hts]) (by simp [size_put, hts])) (fun _ _ _ h => h) hS (fun U hU => r_eql9 (s := strV A) (by simp [eval_put_ne, eval_put_eq, size_put, hts]) (by simp [eval_put_ne, eval_put_eq, size_put, hts])) ?_
        refine tk 12 (v := (.bool true)) rfl (by kernel_rfl) (by kernel_rfl) (by kernel_rfl) (wanted_none rfl) (fun _ _ _ h => h) hS (fun U hU => r_pick (by simp [eval_put_ne, eval_put_eq, size_put, hts]) (by simp [eval_put_ne, eval_put_eq, size_put, hts])) ?_
        refine tk 13 (v := (.bool true)) rfl (by kernel_rfl) (by kernel_rfl) (by kernel_rfl) (wanted_none rfl) (fun _ _ _ h => h) hS (fun U hU => r_move (by simp [eval_put_ne, eval_put_eq, size_put, hts])) ?_
        refine tk 14 (v := (.slice (some ⟨gx, 0, none⟩) 256 256)) rfl (by kernel_rfl) (by kernel_rfl) (by kernel_rfl) (wanted_some (j := 13) (d := 81) (bb := true) rfl rfl rfl (by simp [eval_put_ne, eval_put_eq, size_put, hts]) (by simp [size_put, hts])) (fun _ _ _ h => h) hS (fun U hU => r_move (by simp [eval_put_ne, eval_put_eq, size_put, hts, e11])) ?_
        refine tk 15 (v := (.slice (some ⟨gx, 128, none⟩) 128 128)) rfl (by kernel_rfl) (by kernel_rfl) (by kernel_rfl) (wanted_some (j := 13) (d := 81) (bb := true) rfl rfl rfl (by simp [eval_put_ne, eval_put_eq, size_put, hts]) (by simp [size_put, hts])) (fun _ _ _ h => h) hS (fun U hU => r_slice1 (off := 0) (len := 256) (cap := 256) (l := 128) (by simp [eval_put_ne, eval_put_eq, size_put, hts]) rfl (by decide) (by decide)) ?_
        refine tk 16 (v := (.string (strV (List.replicate 128 (.int .u8 0))))) rfl (by kernel_rfl) (by kernel_rfl) (by kernel_rfl) (wanted_some (j := 13) (d := 81) (bb := true) rfl rfl rfl (by simp [eval_put_ne, eval_put_eq, size_put, hts]) (by simp [size_put, hts])) (fun _ _ _ h => h) hS (fun U hU => r_str (b := gx) (so := 128) (len := 128) (cap := 128) (by simp [eval_put_ne, eval_put_eq, size_put, hts]) (HXZ ▸ hU.1.cells 128 128) (by simp) hZb) ?_
        refine dn 17 rfl (by kernel_rfl) (wanted_some (j := 13) (d := 81) (bb := true) rfl rfl rfl (by simp [eval_put_ne, eval_put_eq, size_put, hts]) (by simp [size_put, hts])) (run_make_op 1 (by decide) Try.underlying28 hi5 hz5 rfl hs5 128 (kl := .i64) (kc := .i64) rfl rfl (by rw [hb5]; decide) (by unfold maxLen; decide)) hS1 ?_
        refine dn 18 (v := (.string (strV (List.replicate 128 (.int .u8 0))))) rfl (by kernel_rfl) (wanted_some (j := 13) (d := 81) (bb := true) rfl rfl rfl (by simp [eval_put_ne, eval_put_eq, size_put, hts]) (by simp [size_put, hts])) (r_str (b := w17.heap.size) (so := 0) (len := 128) (cap := 128) (by simp [eval_put_ne, eval_put_eq, size_put, hts]) hZc (by simp) hZb) hS1 ?_
        refine dn 19 (v := (.bool true)) rfl (by kernel_rfl) (wanted_some (j := 13) (d := 81) (bb := true) rfl rfl rfl (by simp [eval_put_ne, eval_put_eq, size_put, hts]) (by simp [size_put, hts])) (r_eql9 (s := strV (List.replicate 128 (.int .u8 0))) (by simp [eval_put_ne, eval_put_eq, size_put, hts]) (by simp [eval_put_ne, eval_put_eq, size_put, hts])) hS1 ?_
        refine dn 20 (v := (.bool true)) rfl (by kernel_rfl) (wanted_none rfl) (r_pick (by simp [eval_put_ne, eval_put_eq, size_put, hts]) (by simp [eval_put_ne, eval_put_eq, size_put, hts])) hS1 ?_
        refine dn 21 (v := (.bool true)) rfl (by kernel_rfl) (wanted_none rfl) (r_move (by simp [eval_put_ne, eval_put_eq, size_put, hts])) hS1 ?_
        refine dn 22 (v := (.pointer (some ⟨d, 0, none⟩))) rfl (by kernel_rfl) (wanted_some (j := 21) (d := 89) (bb := true) rfl rfl rfl (by simp [eval_put_ne, eval_put_eq, size_put, hts]) (by simp [size_put, hts])) (r_move (by simp [eval_put_ne, eval_put_eq, size_put, hts, e8])) hS1 ?_
        refine cl 23 (v := (.bool false)) rfl (by kernel_rfl) (wanted_some (j := 21) (d := 89) (bb := true) rfl rfl rfl (by simp [eval_put_ne, eval_put_eq, size_put, hts]) (by simp [size_put, hts])) (r_call1 Try.func18 (by kernel_rfl) rfl rfl (by simp [eval_put_ne, eval_put_eq, size_put, hts])) HOff hS1 ?_
        refine dn 24 (v := (.bool true)) rfl (by kernel_rfl) (wanted_some (j := 21) (d := 89) (bb := true) rfl rfl rfl (by simp [eval_put_ne, eval_put_eq, size_put, hts]) (by simp [size_put, hts])) (r_not (b := false) (by simp [eval_put_ne, eval_put_eq, size_put, hts])) hS1 ?_
        refine dn 25 (v := (.bool true)) rfl (by kernel_rfl) (wanted_none rfl) (r_pick (by simp [eval_put_ne, eval_put_eq, size_put, hts]) (by simp [eval_put_ne, eval_put_eq, size_put, hts])) hS1 ?_
        refine dn 26 (v := (.bool true)) rfl (by kernel_rfl) (wanted_none rfl) (r_move (by simp [eval_put_ne, eval_put_eq, size_put, hts])) hS1 ?_
        refine dn 27 (v := (.pointer (some ⟨d, 0, none⟩))) rfl (by kernel_rfl) (wanted_some (j := 26) (d := 94) (bb := true) rfl rfl rfl (by simp [eval_put_ne, eval_put_eq, size_put, hts]) (by simp [size_put, hts])) (r_move (by simp [eval_put_ne, eval_put_eq, size_put, hts, e8])) hS1 ?_
        refine cl 28 (v := (.int .i64 0)) rfl (by kernel_rfl) (wanted_some (j := 26) (d := 94) (bb := true) rfl rfl rfl (by simp [eval_put_ne, eval_put_eq, size_put, hts]) (by simp [size_put, hts])) (r_call1 Try.func15 (by kernel_rfl) rfl rfl (by simp [eval_put_ne, eval_put_eq, size_put, hts])) HWait hS1 ?_
        refine dn 29 (v := (.bool true)) rfl (by kernel_rfl) (wanted_some (j := 26) (d := 94) (bb := true) rfl rfl rfl (by simp [eval_put_ne, eval_put_eq, size_put, hts]) (by simp [size_put, hts])) (r_eql3 (i := 0) (by simp [eval_put_ne, eval_put_eq, size_put, hts]) rfl) hS1 ?_
        refine dn 30 (v := (.bool true)) rfl (by kernel_rfl) (wanted_none rfl) (r_pick (by simp [eval_put_ne, eval_put_eq, size_put, hts]) (by simp [eval_put_ne, eval_put_eq, size_put, hts])) hS1 ?_
        refine dn 31 (v := (.bool true)) rfl (by kernel_rfl) (wanted_none rfl) (r_assign (by simp [eval_put_ne, eval_put_eq, size_put, hts])) hS1 ?_
        refine wpAnyH_done (by kernel_rfl) ?_ _
        have hkfin := h18.kept
        refine abs1 (p := fun a => Exit.then _ _ .normal a _) 6 99 (v := .bool true) (ds := []) (by simp [eval_put_ne, eval_put_eq, size_put, hts]) (by simp [size_put, hts]) (by simp [put_defers, hdf]) ?_
        intro a6 e6 ht6 hd6
        clear h16 h17 h18 hS hS1 hZc HOff HWait hheap e8 e10 e11 e12 e13 hi5 hz5 hs5 hb5
        go_wp2
        refine bodyPost_ret (v := .bool true) ?_ hd6 ⟨rfl, hkfin⟩
        rw [results_tmp (t := 6) rfl]
        exact congrArg (fun v => Result.ok v _) e6
      
      · go_wp2_with (first
          | ((with_reducible refine aw_load (dst := some 65) Try.agg54 rfl hA14 HA3.out HA2.out ?_))
          | ((with_reducible refine aw_alloc Hi54.out Hz54.out ?_); intro w15 hw15 hk15 hz15; have Hz15 := hide hz15; clear hz15)
          | ((with_reducible refine aw_store (y := .tmp 65) Try.agg54 rfl rfl HA.out HA1.out hw15 (by simp [Value.cells]) ?_); intro w16 hw16 hk16 hz16; rw [put_whole _ _ (by rw [HA.out]; simp [Value.cells])] at hw16; have Hz16 := hide hz16; clear hz16; have hB16 := hk16.blk (hk15.blk hB14 (fun h => h)) (fun e => absurd hB14.lt (by omega)))
          | ((with_reducible refine aw_load (dst := some 67) Try.agg54 rfl hB16 HB3.out HB2.out ?_))
          | ((with_reducible refine aw_store (y := .tmp 67) Try.agg54 rfl rfl HB.out HB1.out hw16 HA3.out ?_); intro w17b hw17b hk17b hz17b; rw [put_whole _ _ (by rw [HA.out, HB.out])] at hw17b; have Hz17b := hide hz17b; clear hz17b))
        have hkk : Kept (fun _ => False) w14 w17b := (hk15.trans hk16 (fun i hi h => by omega)).trans hk17b (fun i hi h => by omega)
        have h16 := h14.more hkk w14.heap.size B 54 hw17b (Nat.le_refl _)
        have HXM : (X.drop 64).take 64 = B := HXs.out.1
        have HXZ : (X.drop 128).take 128 = List.replicate 128 (.int .u8 0) := by rw [HXs.out.2.1]; simp
        have HMM : (B.drop 0).take 64 = B := HB2.out
        have hZb : ∀ v ∈ List.replicate 128 (Value.int .u8 0), isByte v := fun v hv => by rw [List.eq_of_mem_replicate hv]; exact isByte.zero
        obtain ⟨i5, hi5, hz5, hs5, hb5⟩ := info_parts Try.info5
        refine abs5 (p := fun a => Code.wp Try.prog _ _ a _) 8 10 11 12 13 99 (v1 := .pointer (some ⟨d, 0, none⟩)) (v2 := .bool true) (v3 := .slice (some ⟨gx, 0, none⟩) 256 256) (v4 := .int .i64 0) (v5 := .pointer (some ⟨w14.heap.size, 0, none⟩)) rfl rfl rfl rfl rfl rfl rfl ?_
        intro a' e8 e10 e11 e12 e13 hts hdf
        refine region_held (S := fun U => Blk U gx X 5 ∧ Blk U w14.heap.size B 54) Try.mixed ?_
        intro w17 hk17 hheap
        have h17 := h16.same hk17
        have hS : Blk w17 gx X 5 ∧ Blk w17 w14.heap.size B 54 := ⟨h17.blk (gx, X, 5) (by simp), h17.blk (w14.heap.size, B, 54) (by simp)⟩
        have h18 := h17.more (Kept.alloc (fun _ => False) w17 (.cells (List.replicate (128 * 1) (Value.int .u8 0)).toArray 5)) w17.heap.size (List.replicate 128 (.int .u8 0)) 5 (Blk.new w17 _ 5) (Nat.le_refl _)
        have hS1 : Blk (w17.alloc (.cells (List.replicate (128 * 1) (Value.int .u8 0)).toArray 5)) gx X 5 ∧ Blk (w17.alloc (.cells (List.replicate (128 * 1) (Value.int .u8 0)).toArray 5)) w14.heap.size B 54 := ⟨h18.blk (gx, X, 5) (by simp), h18.blk (w14.heap.size, B, 54) (by simp)⟩
        have hZc : Cells (w17.alloc (.cells (List.replicate (128 * 1) (Value.int .u8 0)).toArray 5)) w17.heap.size 0 (List.replicate 128 (.int .u8 0)) := by
          have := (Blk.new w17 (List.replicate 128 (.int .u8 0)) 5).cells 0 128
          simpa using this
        have HOff : Calls Try.prog 18 #[.pointer (some ⟨d, 0, none⟩)] (w17.alloc (.cells (List.replicate (128 * 1) (Value.int .u8 0)).toArray 5)) fun e w' => e = .returned (.bool false) ∧ (w17.alloc (.cells (List.replicate (128 * 1) (Value.int .u8 0)).toArray 5)) = w' := h18.isOff
        have HWait : Calls Try.prog 15 #[.pointer (some ⟨d, 0, none⟩)] (w17.alloc (.cells (List.replicate (128 * 1) (Value.int .u8 0)).toArray 5)) fun e w' => e = .returned (.int .i64 0) ∧ (w17.alloc (.cells (List.replicate (128 * 1) (Value.int .u8 0)).toArray 5)) = w' := h18.waiting
        refine tk 0 (v := (.bool true)) rfl (by kernel_rfl) (by kernel_rfl) (by kernel_rfl) (wanted_none rfl) (fun _ _ _ h => h) hS (fun U hU => r_move (by simp [eval_put_ne, eval_put_eq, size_put, hts, e10])) ?_
        refine tk 1 (v := (.bool true)) rfl (by kernel_rfl) (by kernel_rfl) (by kernel_rfl) (wanted_none rfl) (fun _ _ _ h => h) hS (fun U hU => r_move (by simp [eval_put_ne, eval_put_eq, size_put, hts])) ?_
        refine tk 2 (v := (.int .i64 0)) rfl (by kernel_rfl) (by kernel_rfl) (by kernel_rfl) (wanted_some (j := 1) (d := 69) (bb := true) rfl rfl rfl (by simp [eval_put_ne, eval_put_eq, size_put, hts]) (by simp [size_put, hts])) (fun _ _ _ h => h) hS (fun U hU => r_move (by simp [eval_put_ne, eval_put_eq, size_put, hts, e12])) ?_
        refine tk 3 (v := (.bool true)) rfl (by kernel_rfl) (by kernel_rfl) (by kernel_rfl) (wanted_some (j := 1) (d := 69) (bb := true) rfl rfl rfl (by simp [eval_put_ne, eval_put_eq, size_put, hts]) (by simp [size_put, hts])) (fun _ _ _ h => h) hS (fun U hU => r_eql25 (i := 0) (by simp [eval_put_ne, eval_put_eq, size_put, hts]) rfl) ?_
        refine tk 4 (v := (.bool true)) rfl (by kernel_rfl) (by kernel_rfl) (by kernel_rfl) (wanted_none rfl) (fun _ _ _ h => h) hS (fun U hU => r_pick (by simp [eval_put_ne, eval_put_eq, size_put, hts]) (by simp [eval_put_ne, eval_put_eq, size_put, hts])) ?_
        refine tk 5 (v := (.bool true)) rfl (by kernel_rfl) (by kernel_rfl) (by kernel_rfl) (wanted_none rfl) (fun _ _ _ h => h) hS (fun U hU => r_move (by simp [eval_put_ne, eval_put_eq, size_put, hts])) ?_
        refine tk 6 (v := (.slice (some ⟨gx, 0, none⟩) 256 256)) rfl (by kernel_rfl) (by kernel_rfl) (by kernel_rfl) (wanted_some (j := 5) (d := 73) (bb := true) rfl rfl rfl (by simp [eval_put_ne, eval_put_eq, size_put, hts]) (by simp [size_put, hts])) (fun _ _ _ h => h) hS (fun U hU => r_move (by simp [eval_put_ne, eval_put_eq, size_put, hts, e11])) ?_
        refine tk 7 (v := (.slice (some ⟨gx, 64, none⟩) 64 192)) rfl (by kernel_rfl) (by kernel_rfl) (by kernel_rfl) (wanted_some (j := 5) (d := 73) (bb := true) rfl rfl rfl (by simp [eval_put_ne, eval_put_eq, size_put, hts]) (by simp [size_put, hts])) (fun _ _ _ h => h) hS (fun U hU => r_slice2 (off := 0) (len := 256) (cap := 256) (l := 64) (h := 128) (by simp [eval_put_ne, eval_put_eq, size_put, hts]) rfl rfl (by decide) (by decide) (by decide)) ?_
        refine tk 8 (v := (.string (strV B))) rfl (by kernel_rfl) (by kernel_rfl) (by kernel_rfl) (wanted_some (j := 5) (d := 73) (bb := true) rfl rfl rfl (by simp [eval_put_ne, eval_put_eq, size_put, hts]) (by simp [size_put, hts])) (fun _ _ _ h => h) hS (fun U hU => r_str (b := gx) (so := 64) (len := 64) (cap := 192) (by simp [eval_put_ne, eval_put_eq, size_put, hts]) (HXM ▸ hU.1.cells 64 64) HB.out HBb.out) ?_
        refine tk 9 (v := (.slice (some ⟨w14.heap.size, 0, none⟩) 64 64)) rfl (by kernel_rfl) (by kernel_rfl) (by kernel_rfl) (wanted_some (j := 5) (d := 73) (bb := true) rfl rfl rfl (by simp [eval_put_ne, eval_put_eq, size_put, hts]) (by simp [size_put, hts])) (fun _ _ _ h => h) hS (fun U hU => r_slice54 (by simp [eval_put_ne, eval_put_eq, size_put, hts, e13])) ?_
        refine tk 10 (v := (.string (strV B))) rfl (by kernel_rfl) (by kernel_rfl) (by kernel_rfl) (wanted_some (j := 5) (d := 73) (bb := true) rfl rfl rfl (by simp [eval_put_ne, eval_put_eq, size_put, hts]) (by simp [size_put, hts])) (fun _ _ _ h => h) hS (fun U hU => r_str (b := w14.heap.size) (so := 0) (len := 64) (cap := 64) (by simp [eval_put_ne, eval_put_eq, size_put, hts]) (HMM ▸ hU.2.cells 0 64) HB.out HBb.out) ?_
        refine tk 11 (v := (.bool true)) rfl (by kernel_rfl) (by kernel_rfl) (by kernel_rfl) (wanted_some (j := 5) (d := 73) (bb := true) rfl rfl rfl (by simp [eval_put_ne, eval_put_eq, size_put, hts]) (by simp [size_put, hts])) (fun _ _ _ h => h) hS (fun U hU => r_eql9 (s := strV B) (by simp [eval_put_ne, eval_put_eq, size_put, hts]) (by simp [eval_put_ne, eval_put_eq, size_put, hts])) ?_
        refine tk 12 (v := (.bool true)) rfl (by kernel_rfl) (by kernel_rfl) (by kernel_rfl) (wanted_none rfl) (fun _ _ _ h => h) hS (fun U hU => r_pick (by simp [eval_put_ne, eval_put_eq, size_put, hts]) (by simp [eval_put_ne, eval_put_eq, size_put, hts])) ?_
        refine tk 13 (v := (.bool true)) rfl (by kernel_rfl) (by kernel_rfl) (by kernel_rfl) (wanted_none rfl) (fun _ _ _ h => h) hS (fun U hU => r_move (by simp [eval_put_ne, eval_put_eq, size_put, hts])) ?_
        refine tk 14 (v := (.slice (some ⟨gx, 0, none⟩) 256 256)) rfl (by kernel_rfl) (by kernel_rfl) (by kernel_rfl) (wanted_some (j := 13) (d := 81) (bb := true) rfl rfl rfl (by simp [eval_put_ne, eval_put_eq, size_put, hts]) (by simp [size_put, hts])) (fun _ _ _ h => h) hS (fun U hU => r_move (by simp [eval_put_ne, eval_put_eq, size_put, hts, e11])) ?_
        refine tk 15 (v := (.slice (some ⟨gx, 128, none⟩) 128 128)) rfl (by kernel_rfl) (by kernel_rfl) (by kernel_rfl) (wanted_some (j := 13) (d := 81) (bb := true) rfl rfl rfl (by simp [eval_put_ne, eval_put_eq, size_put, hts]) (by simp [size_put, hts])) (fun _ _ _ h => h) hS (fun U hU => r_slice1 (off := 0) (len := 256) (cap := 256) (l := 128) (by simp [eval_put_ne, eval_put_eq, size_put, hts]) rfl (by decide) (by decide)) ?_
        refine tk 16 (v := (.string (strV (List.replicate 128 (.int .u8 0))))) rfl (by kernel_rfl) (by kernel_rfl) (by kernel_rfl) (wanted_some (j := 13) (d := 81) (bb := true) rfl rfl rfl (by simp [eval_put_ne, eval_put_eq, size_put, hts]) (by simp [size_put, hts])) (fun _ _ _ h => h) hS (fun U hU => r_str (b := gx) (so := 128) (len := 128) (cap := 128) (by simp [eval_put_ne, eval_put_eq, size_put, hts]) (HXZ ▸ hU.1.cells 128 128) (by simp) hZb) ?_
        refine dn 17 rfl (by kernel_rfl) (wanted_some (j := 13) (d := 81) (bb := true) rfl rfl rfl (by simp [eval_put_ne, eval_put_eq, size_put, hts]) (by simp [size_put, hts])) (run_make_op 1 (by decide) Try.underlying28 hi5 hz5 rfl hs5 128 (kl := .i64) (kc := .i64) rfl rfl (by rw [hb5]; decide) (by unfold maxLen; decide)) hS1 ?_
        refine dn 18 (v := (.string (strV (List.replicate 128 (.int .u8 0))))) rfl (by kernel_rfl) (wanted_some (j := 13) (d := 81) (bb := true) rfl rfl rfl (by simp [eval_put_ne, eval_put_eq, size_put, hts]) (by simp [size_put, hts])) (r_str (b := w17.heap.size) (so := 0) (len := 128) (cap := 128) (by simp [eval_put_ne, eval_put_eq, size_put, hts]) hZc (by simp) hZb) hS1 ?_
        refine dn 19 (v := (.bool true)) rfl (by kernel_rfl) (wanted_some (j := 13) (d := 81) (bb := true) rfl rfl rfl (by simp [eval_put_ne, eval_put_eq, size_put, hts]) (by simp [size_put, hts])) (r_eql9 (s := strV (List.replicate 128 (.int .u8 0))) (by simp [eval_put_ne, eval_put_eq, size_put, hts]) (by simp [eval_put_ne, eval_put_eq, size_put, hts])) hS1 ?_
        refine dn 20 (v := (.bool true)) rfl (by kernel_rfl) (wanted_none rfl) (r_pick (by simp [eval_put_ne, eval_put_eq, size_put, hts]) (by simp [eval_put_ne, eval_put_eq, size_put, hts])) hS1 ?_
        refine dn 21 (v := (.bool true)) rfl (by kernel_rfl) (wanted_none rfl) (r_move (by simp [eval_put_ne, eval_put_eq, size_put, hts])) hS1 ?_
        refine dn 22 (v := (.pointer (some ⟨d, 0, none⟩))) rfl (by kernel_rfl) (wanted_some (j := 21) (d := 89) (bb := true) rfl rfl rfl (by simp [eval_put_ne, eval_put_eq, size_put, hts]) (by simp [size_put, hts])) (r_move (by simp [eval_put_ne, eval_put_eq, size_put, hts, e8])) hS1 ?_
        refine cl 23 (v := (.bool false)) rfl (by kernel_rfl) (wanted_some (j := 21) (d := 89) (bb := true) rfl rfl rfl (by simp [eval_put_ne, eval_put_eq, size_put, hts]) (by simp [size_put, hts])) (r_call1 Try.func18 (by kernel_rfl) rfl rfl (by simp [eval_put_ne, eval_put_eq, size_put, hts])) HOff hS1 ?_
        refine dn 24 (v := (.bool true)) rfl (by kernel_rfl) (wanted_some (j := 21) (d := 89) (bb := true) rfl rfl rfl (by simp [eval_put_ne, eval_put_eq, size_put, hts]) (by simp [size_put, hts])) (r_not (b := false) (by simp [eval_put_ne, eval_put_eq, size_put, hts])) hS1 ?_
        refine dn 25 (v := (.bool true)) rfl (by kernel_rfl) (wanted_none rfl) (r_pick (by simp [eval_put_ne, eval_put_eq, size_put, hts]) (by simp [eval_put_ne, eval_put_eq, size_put, hts])) hS1 ?_
        refine dn 26 (v := (.bool true)) rfl (by kernel_rfl) (wanted_none rfl) (r_move (by simp [eval_put_ne, eval_put_eq, size_put, hts])) hS1 ?_
        refine dn 27 (v := (.pointer (some ⟨d, 0, none⟩))) rfl (by kernel_rfl) (wanted_some (j := 26) (d := 94) (bb := true) rfl rfl rfl (by simp [eval_put_ne, eval_put_eq, size_put, hts]) (by simp [size_put, hts])) (r_move (by simp [eval_put_ne, eval_put_eq, size_put, hts, e8])) hS1 ?_
        refine cl 28 (v := (.int .i64 0)) rfl (by kernel_rfl) (wanted_some (j := 26) (d := 94) (bb := true) rfl rfl rfl (by simp [eval_put_ne, eval_put_eq, size_put, hts]) (by simp [size_put, hts])) (r_call1 Try.func15 (by kernel_rfl) rfl rfl (by simp [eval_put_ne, eval_put_eq, size_put, hts])) HWait hS1 ?_
        refine dn 29 (v := (.bool true)) rfl (by kernel_rfl) (wanted_some (j := 26) (d := 94) (bb := true) rfl rfl rfl (by simp [eval_put_ne, eval_put_eq, size_put, hts]) (by simp [size_put, hts])) (r_eql3 (i := 0) (by simp [eval_put_ne, eval_put_eq, size_put, hts]) rfl) hS1 ?_
        refine dn 30 (v := (.bool true)) rfl (by kernel_rfl) (wanted_none rfl) (r_pick (by simp [eval_put_ne, eval_put_eq, size_put, hts]) (by simp [eval_put_ne, eval_put_eq, size_put, hts])) hS1 ?_
        refine dn 31 (v := (.bool true)) rfl (by kernel_rfl) (wanted_none rfl) (r_assign (by simp [eval_put_ne, eval_put_eq, size_put, hts])) hS1 ?_
        refine wpAnyH_done (by kernel_rfl) ?_ _
        have hkfin := h18.kept
        refine abs1 (p := fun a => Exit.then _ _ .normal a _) 6 99 (v := .bool true) (ds := []) (by simp [eval_put_ne, eval_put_eq, size_put, hts]) (by simp [size_put, hts]) (by simp [put_defers, hdf]) ?_
        intro a6 e6 ht6 hd6
        clear h16 h17 h18 hS hS1 hZc HOff HWait hheap e8 e10 e11 e12 e13 hi5 hz5 hs5 hb5
        go_wp2
        refine bodyPost_ret (v := .bool true) ?_ hd6 ⟨rfl, hkfin⟩
        rw [results_tmp (t := 6) rfl]
        exact congrArg (fun v => Result.ok v _) e6
      
end Go.Proofs.Ytjepiaacaemkhaa
