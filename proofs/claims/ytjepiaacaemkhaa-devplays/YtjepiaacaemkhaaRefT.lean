/-
  The reference's Turn.
-/
import Derived.Test.YtjepiaacaemkhaaTurn
namespace Go.Proofs.Ytjepiaacaemkhaa
open Go.RowKit Go.Shelf
set_option linter.unusedSimpArgs false
set_option linter.unusedVariables false

theorem strV_at (M : List Value) (hM : ∀ v ∈ M, isByte v) (cap j : Nat) (v : Value) (hj : M[j]? = some v) : (bytesRow (strV M) cap)[j]? = some v := by
  obtain ⟨hlt, he⟩ := List.getElem?_eq_some_iff.1 hj
  have hs : j < (strV M).data.size := by rw [strV_data]; simpa using hlt
  rw [bytesRow_at (strV M) cap j hs]
  obtain ⟨n, rfl, h0, h1⟩ := hM v (List.mem_of_getElem? hj)
  have hd : (strV M).data[j] = UInt8.ofNat n.toNat := by
    simp only [strV_data, List.getElem_toArray, List.getElem_map, he, numOf]
  rw [hd]
  have : (UInt8.ofNat n.toNat).toNat = n.toNat := by simp [UInt8.toNat_ofNat']; omega
  rw [this]
  have : ((n.toNat : Nat) : Int) = n := by omega
  rw [this]

theorem aw_bytes {ops : Array Oper} {Q : Exit → Act → World → Prop} {a : Act} {w : World} {rest : List Oper} {dst : Option Tmp} {ty : TypeId} {pos : String} {aft : Array Edge} {x : Operand} {M : List Value} (hM : ∀ v ∈ M, isByte v) (hx : a.eval x = .string (strV M))
    (h : ∀ w' cap, Cells w' w.heap.size 0 M → (∀ i, i < M.length → w'.frozen? ⟨w.heap.size, i, none⟩ = false) → M.length ≤ cap → Kept (fun _ => False) w w' → wpList Try.prog ops Q rest (a.put dst (.slice (some ⟨w.heap.size, 0, none⟩) M.length cap)) w') :
    wpList Try.prog ops Q (⟨dst, .convert 9 28 x, ty, pos, aft, none⟩ :: rest) a w := by
  have hrun := run_bytes_of_string (P := Try.prog) w 9 28 5 (strV M) Try.underlying9 Try.underlying28 Try.underlying5
  have hsz := strV_size M
  rw [hsz] at hrun
  have hge := grownCap_ge w M.length 0 5
  refine wpList_run rfl (v := .slice (some ⟨w.heap.size, 0, none⟩) M.length (grownCap w M.length 0 5)) (by simp [execOp, hx, hrun]; rfl) (h _ _ ?_ ?_ hge ?_)
  · intro j v hj
    rw [Nat.zero_add]
    have := World.cell?_alloc_mark w.drew (bytesRow (strV M) (grownCap w M.length 0 5)) 5 ((bytesRow (strV M) (grownCap w M.length 0 5)).size, (bytesRow (strV M) (grownCap w M.length 0 5)).size + 1) j
    exact this.trans (strV_at M hM _ j v hj)
  · intro i hi
    have := World.frozen?_alloc_mark w.drew (bytesRow (strV M) (grownCap w M.length 0 5)) 5 (bytesRow (strV M) (grownCap w M.length 0 5)).size ((bytesRow (strV M) (grownCap w M.length 0 5)).size + 1) i
    refine this.trans ?_
    have hsz2 : (bytesRow (strV M) (grownCap w M.length 0 5)).size = M.length + (grownCap w M.length 0 5 - M.length) := by
      simp [bytesRow, strV_data, hsz]
    simp [hsz2]
    omega
  · exact ((Kept.refl (fun _ => False) w).drew).trans (Kept.alloc _ w.drew _) (fun _ _ h => h)

theorem stop_bin {P : Program} {ops : Array Oper} {Q : Exit → Act → World → Prop} {a : Act} {w : World} {rest : List Oper} {dst : Option Tmp} {ty : TypeId} {pos : String} {aft : Array Edge} {x y : Operand} {t u : TypeId} (o : BinOp)
    (h : Hid (wpList P ops Q (⟨dst, .binOp o t x y u, ty, pos, aft, none⟩ :: rest) a w)) : wpList P ops Q (⟨dst, .binOp o t x y u, ty, pos, aft, none⟩ :: rest) a w := h.out
theorem Cells.set {w : World} {b : Nat} {M : List Value} (h : Cells w b 0 M) (j : Nat) (hj : j < M.length) (v : Value) : Cells (w.setCell ⟨b, j, none⟩ v) b 0 (M.set j v) := by
  intro i u hi
  rw [Nat.zero_add]
  by_cases he : i = j
  · subst he
    rw [List.getElem?_set_self hj] at hi
    cases hi
    have := h i _ (List.getElem?_eq_getElem hj)
    rw [Nat.zero_add] at this
    exact World.cell?_setCell_same w _ _ this
  · rw [List.getElem?_set_ne (fun e => he e.symm)] at hi
    have := h i u hi
    rw [Nat.zero_add] at this
    rw [World.cell?_setCell_other]
    · exact this
    · intro e
      cases e
      exact he rfl

set_option maxHeartbeats 1000000 in
theorem refTurn_bad (w : World) (s : DS) (n : Nat) (hl : s.st.length = 64 * n) (hn : n ≤ 4096) (ro : Option Addr) (rl rc : Nat) (a m : Int) (ha : a ≤ 9223372036854775807) (hbad : hasB n a 1 = false ∨ m < 0 ∨ 511 < m) :
    Calls Try.prog 24 #[refA s (.slice ro rl rc), .int .i64 a, .int .i64 m] w fun e w' => e = .returned (.tuple #[refA s (.slice ro rl rc), .int .i64 11]) ∧ Kept (fun _ => False) w w' := by
  have HR1 := hide (refL_one s ro rl rc)
  obtain ⟨i40, hi40, hz40, hs40, hb40⟩ := info_parts Try.info40
  have Hi40 := hide hi40
  have Hz40 := hide hz40
  clear hi40 hz40 hs40 hb40
  rw [refL_A]
  obtain ⟨L, hL⟩ : ∃ L, L = refL s (.slice ro rl rc) := ⟨_, rfl⟩
  rw [← hL] at HR1 ⊢
  have HL5 : Hid (L.length = 5) := hide (by rw [hL]; rfl)
  have HLd : Hid ((L.drop 0).take 5 = L) := hide (by rw [hL]; rfl)
  have HL0 : Hid (L[0]? = some (.string (strV s.st))) := hide (by rw [hL]; rfl)
  have hsz : (strV s.st).size = 64 * n := by rw [strV_size, hl]
  have hq : ((64 * n : Nat) : Int) / 64 = (n : Int) := by omega
  have hcs : a < 0 ∨ (0 ≤ a ∧ (n : Int) ≤ a) ∨ (0 ≤ a ∧ a < n ∧ m < 0) ∨ (0 ≤ a ∧ a < n ∧ 0 ≤ m ∧ 511 < m) := by
    by_cases h0 : a < 0
    · exact .inl h0
    by_cases h1 : (n : Int) ≤ a
    · exact .inr (.inl ⟨by omega, h1⟩)
    have hh : hasB n a 1 = true := by simp [hasB]; omega
    rw [hh] at hbad
    rcases hbad with h | h | h
    · cases h
    · exact .inr (.inr (.inl ⟨by omega, by omega, h⟩))
    · exact .inr (.inr (.inr ⟨by omega, by omega, by omega, h⟩))
  clear hL hl hbad
  generalize strV s.st = S at *
  rcases hcs with h0 | ⟨h0, h1⟩ | ⟨h0, h1, h2⟩ | ⟨h0, h1, h2, h3⟩
  all_goals
    go_enter Try.func24, Try.ntmps24
    go_wp2_with (first
      | ((with_reducible refine aw_box (dst := some 3) rfl ?_); intro w1 hw1 hk1 hz1; have Hz1 := hide hz1; clear hz1)
      | ((with_reducible refine aw_alloc (dst := some 6) Hi40.out Hz40.out ?_); intro w2 hw2 hk2 hz2; have Hz2 := hide hz2; clear hz2; have b1 : Blk w2 w.heap.size L 40 := hk2.blk hw1 (fun h => h); have c0 := (b1.cell 0).trans HL0.out)
      | ((with_reducible refine aw_load (dst := some 27) Try.agg40 rfl b1 (by rw [HL5.out]; decide) HLd.out ?_))
      | ((with_reducible refine aw_store (x := .tmp 6) Try.agg40 rfl rfl HL5.out HR1.out hw2 (by simp [Value.cells]) ?_); intro w3 hw3 hk3 hz3; rw [put_whole _ _ (by rw [HL5.out]; simp [Value.cells])] at hw3; have Hz3 := hide hz3; clear hz3))
    have hkk : Kept (fun _ => False) w w3 := (hk1.trans hk2 (fun _ _ h => h)).trans hk3 (fun i hi h => by have := hk1.size; omega)
    exact bodyPost_ret (results_cell_tmp (t := 6) (u := 7) (ty := 40) rfl Try.agg40 rfl hw3 HL5.out rfl) rfl ⟨rfl, hkk⟩

set_option maxHeartbeats 2000000 in
theorem refTurn_ok (w : World) (s : DS) (n : Nat) (hl : s.st.length = 64 * n) (hn : n ≤ 4096) (hB : ∀ v ∈ s.st, isByte v) (ro : Option Addr) (rl rc : Nat) (a m : Nat) (ha : a < n) (hm : m < 512) :
    Calls Try.prog 24 #[refA s (.slice ro rl rc), .int .i64 a, .int .i64 m] w fun e w' => e = .returned (.tuple #[refA (s.turned a m) (.slice ro rl rc), .int .i64 0]) ∧ Kept (fun _ => False) w w' := by
  obtain ⟨p, hp⟩ : ∃ p, p = m / 8 := ⟨_, rfl⟩
  obtain ⟨r, hr⟩ : ∃ r, r = m % 8 := ⟨_, rfl⟩
  have hq : ((m : Int)) / 8 = (p : Int) := by omega
  have hrr : ((m : Int)) % 8 = (r : Int) := by omega
  have hrt : ((m : Int)).tmod 8 = (r : Int) := by rw [Int.tmod_eq_emod_of_nonneg (by omega)]; exact hrr
  have hp64 : p < 64 := by omega
  have hr8 : r ≤ 7 := by omega
  obtain ⟨x, hx⟩ : ∃ x, s.st[64 * a + p]? = some x := ⟨_, List.getElem?_eq_getElem (by rw [hl]; omega)⟩
  obtain ⟨q, rfl, _⟩ := hB x (List.mem_of_getElem? hx)
  have HX := hide hx
  have hS : s.turned a m = { s with st := s.st.set (64 * a + p) (.int .u8 (turnN q r)) } := by
    have hv : turnB (s.st.getD (64 * a + p) (.int .u8 0)) r = .int .u8 (turnN q r) := by
      rw [List.getD_eq_getElem?_getD, hx]; rfl
    rw [← hv, hp, hr]; rfl
  rw [hS]
  have HR1 := hide (refL_one s ro rl rc)
  have HR2 := hide (refL_one { s with st := s.st.set (64 * a + p) (.int .u8 (turnN q r)) } ro rl rc)
  obtain ⟨i40, hi40, hz40, hs40, hb40⟩ := info_parts Try.info40
  have Hi40 := hide hi40
  have Hz40 := hide hz40
  clear hi40 hz40 hs40 hb40 hp hr hS hx
  rw [refL_A, refL_A]
  obtain ⟨L, hL⟩ : ∃ L, L = refL s (.slice ro rl rc) := ⟨_, rfl⟩
  obtain ⟨L2, hL2⟩ : ∃ L2, L2 = refL { s with st := s.st.set (64 * a + p) (.int .u8 (turnN q r)) } (.slice ro rl rc) := ⟨_, rfl⟩
  rw [← hL] at HR1 ⊢
  rw [← hL2] at HR2 ⊢
  have HL5 : Hid (L.length = 5) := hide (by rw [hL]; rfl)
  have HL0 : Hid (L[0]? = some (.string (strV s.st))) := hide (by rw [hL]; rfl)
  have HM5 : Hid (L2.length = 5) := hide (by rw [hL2]; rfl)
  have HMd : Hid (((L.set 0 (.string (strV (s.st.set (64 * a + p) (.int .u8 (turnN q r)))))).drop 0).take 5 = L2) := hide (by rw [hL, hL2]; rfl)
  have hsz : (strV s.st).size = 64 * n := by rw [strV_size, hl]
  have hqn : ((64 * n : Nat) : Int) / 64 = (n : Int) := by omega
  have HBB := hide hB
  have HSL := hide hl
  clear hL hL2 hB hl
  obtain ⟨S, hS⟩ : ∃ S, S = strV s.st := ⟨_, rfl⟩
  rw [← hS] at hsz HL0
  have HS := hide hS
  clear hS
  go_enter Try.func24, Try.ntmps24
  go_wp2_with (first
    | ((with_reducible refine aw_box (dst := some 3) rfl ?_); intro w1 hw1 hk1 hz1; have Hz1 := hide hz1; clear hz1)
    | ((with_reducible refine aw_alloc (dst := some 6) Hi40.out Hz40.out ?_); intro w2 hw2 hk2 hz2; have Hz2 := hide hz2; clear hz2; have b1 : Blk w2 w.heap.size L 40 := hk2.blk hw1 (fun h => h); have c0 := (b1.cell 0).trans HL0.out)
    | (with_reducible refine stop_convert 9 28 ?_))
  refine hide ?_
  refine aw_bytes (M := s.st) HBB.out (by rw [← HS.out]; rfl) ?_
  intro w3 bcap hc3 hf3 hcap3 hk3
  rw [HSL.out] at hcap3 ⊢
  have b3 := hk3.blk b1 (fun h => h)
  have r3 := hk3.blk hw2 (fun h => h)
  have x3 : w3.cell? ⟨w2.heap.size, 64 * a + p, none⟩ = some (.int .u8 q) := by have := hc3 _ _ HX.out; rwa [Nat.zero_add] at this
  have f3 := hf3 (64 * a + p) (by rw [HSL.out]; omega)
  have HC3 := hide hc3
  have HF3 := hide hf3
  clear hc3 hf3 c0 hsz
  go_wp2_with (with_reducible refine stop_bin .shl ?_)
  refine hide ?_
  refine wpList_run rfl (r_shl (j := r) (k := .u64) rfl rfl hr8) ?_
  refine wpList_run rfl (r_xorT (p := q) (j := r) rfl rfl) ?_
  go_wp2_with (with_reducible refine stop_convert 28 9 ?_)
  refine hide ?_
  have hlt1 := hw1.lt
  have hlt2 := hw2.lt
  have hc4 := HC3.out.set (64 * a + p) (by rw [HSL.out]; omega) (.int .u8 (turnN q r))
  have hk4 := Kept.setCell (S := fun k => k = w2.heap.size) w3 ⟨w2.heap.size, 64 * a + p, none⟩ (.int .u8 (turnN q r)) rfl
  refine wpList_run rfl (r_str (b := w2.heap.size) (so := 0) (len := 64 * n) (cap := bcap) (M := s.st.set (64 * a + p) (.int .u8 (turnN q r))) rfl hc4 (by simpa using HSL.out) (fun v hv => by
    rcases List.mem_or_eq_of_mem_set hv with h | h
    · exact HBB.out v h
    · rw [h]; exact turnB_byte (.int .u8 q) r)) ?_
  have b4 := hk4.blk b3 (fun h => by have := b1.lt; omega)
  have r4 := hk4.blk r3 (fun h => by omega)
  have hk04 : Kept (fun _ => False) w (w3.setCell ⟨w2.heap.size, 64 * a + p, none⟩ (.int .u8 (turnN q r))) := ((hk1.trans hk2 (fun _ _ h => h)).trans hk3 (fun _ _ h => h)).trans hk4 (fun i hi h => by have := b1.lt; omega)
  generalize w3.setCell ⟨w2.heap.size, 64 * a + p, none⟩ (.int .u8 (turnN q r)) = w4 at *
  have g0 := (b4.cell 0).trans HL0.out
  have g1 := b4.frozen 0
  have X1 := b4.setCell 0 (.string (strV (s.st.set (64 * a + p) (.int .u8 (turnN q r)))))
  have R1 := (Kept.setCell (S := fun k => k = w.heap.size) w4 ⟨w.heap.size, 0, none⟩ (.string (strV (s.st.set (64 * a + p) (.int .u8 (turnN q r))))) rfl).blk r4 (fun h => by omega)
  have K1 : Kept (fun _ => False) w (w4.setCell ⟨w.heap.size, 0, none⟩ (.string (strV (s.st.set (64 * a + p) (.int .u8 (turnN q r)))))) := hk04.setN (Nat.le_refl _)
  have hge1 : w.heap.size ≤ w1.heap.size := by omega
  clear hk1 hk2 hk3 hk4 hk04 hc4 b3 r3 b4 r4 x3 f3 hw2 hw1 b1
  generalize strV (s.st.set (64 * a + p) (.int .u8 (turnN q r))) = S2 at *
  go_wp2_with (first
    | ((with_reducible refine aw_load (dst := some 48) Try.agg40 rfl X1 (by rw [List.length_set, HL5.out]; decide) HMd.out ?_))
    | ((with_reducible refine aw_store (x := .tmp 6) (M := L2) Try.agg40 rfl rfl HM5.out HR2.out R1 (by simp [Value.cells]) ?_); intro w5 hw5 hk5 hz5; rw [put_whole _ _ (by rw [HM5.out]; simp [Value.cells])] at hw5; have Hz5 := hide hz5; clear hz5))
  have hkk : Kept (fun _ => False) w w5 := K1.trans hk5 (fun i hi h => by omega)
  exact bodyPost_ret (results_cell_tmp (t := 6) (u := 7) (ty := 40) rfl Try.agg40 rfl hw5 HM5.out rfl) rfl ⟨rfl, hkk⟩

end Go.Proofs.Ytjepiaacaemkhaa
