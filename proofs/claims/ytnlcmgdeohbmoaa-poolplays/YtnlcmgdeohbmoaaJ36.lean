/-
  The document's own answer: With.
-/
import Derived.Test.YtnlcmgdeohbmoaaJ35
import Derived.Test.YtnlcmgdeohbmoaaJ30
import Derived.Test.YtnlcmgdeohbmoaaJ34
namespace Go.Proofs.Ytnlcmgdeohbmoaa
open Go.RowKit Go.Shelf
set_option linter.unusedSimpArgs false
set_option linter.unusedVariables false
set_option maxRecDepth 100000

set_option maxRecDepth 100000 in
set_option maxHeartbeats 4000000 in
theorem rwith_at (w : World) (d : List Nat) (n : Nat) (hd : d.length = 64 * n) (hdl : ∀ x ∈ d, x < 256) (hn : n ≤ 64) (v : Value) (l : List Wv) (hl : WsAt w v l) :
    Calls Try.prog 39 #[.string (strN d), v] w fun e w' => ∃ S : List Nat, e = .returned (.tuple #[.string (strN S), .int .i64 (withE n (l.map Wv.wr))]) ∧ (withE n (l.map Wv.wr) = 0 → S = withB d (l.map Wv.wr)) ∧ Kept (fun _ => False) w w' := by
  obtain ⟨ao, cap0, rfl⟩ := hl.slice
  have HL := hide hl
  have hmax := hl.2.2
  have HD := hide hd
  have HDl := hide hdl
  have HN := hide hn
  obtain ⟨i0, hi0, hz0, hs0, hb0⟩ := info_parts Try.info68
  have Hi0 := hide hi0
  have Hz0 := hide hz0
  clear hl hi0 hz0 hs0 hb0 hd hdl hn
  go_enter Try.func39, Try.ntmps39
  go_wp2
  go_loopw [0, 12] (fun o i wr => ∃ k : Nat, i = .int .i64 k ∧ k ≤ l.length ∧ Hid (withE n ((l.map Wv.wr).take k) = 0) ∧ o = .string (strN (withB d ((l.map Wv.wr).take k))) ∧ Kept (fun _ => False) w wr)
    (fun o i _ => l.length - (intOf i).toNat)
  case atStart => exact ⟨0, rfl, Nat.zero_le _, hide rfl, rfl, Kept.refl _ _⟩
  case round =>
    obtain ⟨k, rfl, hk, HE, rfl, hkr⟩ := hrel
    obtain ⟨X, hX⟩ : ∃ X, X = withB d ((l.map Wv.wr).take k) := ⟨_, rfl⟩
    have HX := hide hX
    have hXl : X.length = 64 * n := by rw [hX]; exact withB_len HD.out HE.out
    have HXl := hide hXl
    have hXlt : ∀ x ∈ X, x < 256 := by
      rw [hX]
      refine withB_lt HDl.out (fun x hx => ?_)
      obtain ⟨y, hy, rfl⟩ := List.mem_map.1 (List.mem_of_mem_take hx)
      exact (HL.out.2.1 y hy).lt
    have HXlt := hide hXlt
    rw [← hX]
    clear hX hXl hXlt
    by_cases hlt : k < l.length
    · obtain ⟨ga, off, rfl, c0, c1, hsa, hna⟩ := (HL.out.kept hkr).get hlt
      have hlm : k < (l.map Wv.wr).length := by simpa using hlt
      have hstep := withE_step hlm HE.out
      rw [wr_get hlt] at hstep
      have HSTEP := hide hstep
      have HSA := hide hsa
      have HNA := hide hna
      obtain ⟨p, hp⟩ : ∃ p, p = l[k].blk := ⟨_, rfl⟩
      obtain ⟨⟨pa, pn, pc⟩, hs⟩ : ∃ s, s = l[k].s := ⟨_, rfl⟩
      have HP := hide hp
      have HS := hide hs
      rw [← hp] at c0
      rw [← hs] at c1
      simp only at c1
      have hpn : pn = l[k].B.length := by rw [← hna, ← hs]
      have HPN := hide hpn
      clear hstep hsa hna hp hs hpn
      by_cases hin : 0 ≤ p ∧ p < n
      · by_cases h64 : pn = 64
        · obtain ⟨m, rfl⟩ : ∃ m : Nat, p = m := ⟨p.toNat, by omega⟩
          have hmn : m < n := by omega
          have Hmn := hide hmn
          subst h64
          go_wp2_with (first
            | ((with_reducible refine aw_alloc (t := 68) (dst := some 7) Hi0.out Hz0.out ?_); intro w3 hw3 hk3 hz3; have Hz3 := hide hz3; clear hz3 c0 c1)
            | ((with_reducible refine aw_store (M := [.int .i64 (m : Int), .slice pa 64 pc]) Try.agg68 rfl rfl rfl (by simp [Value.oneCell']) hw3 (by simp [Value.cells]) ?_); intro w4 hw4 hk4 hz4; rw [put_whole _ _ (by simp [Value.cells])] at hw4; have HK34 := hide (hk3.trans hk4 (S := fun _ => False) (fun i hi h => by omega)); have HK4 := hide (hkr.trans HK34.out (fun _ _ h => h)); have e0 : w4.cell? ⟨wr.heap.size, 0, none⟩ = some (.int .i64 (m : Int)) := hw4.cell 0; have e1 : w4.cell? ⟨wr.heap.size, 1, none⟩ = some (.slice pa 64 pc) := hw4.cell 1; have HW4 := hide hw4; clear hz4 hw3 hk3 hk4 hw4)
            | (go_at_call 62; refine (rget_at _ X n HXl.out HN.out m true (by simpa using hin)).mono ?_; rintro e w5 ⟨rfl, rfl⟩))
          refine region_tail 16 Try.mixed (by kernel_rfl) ?_
          intro w5 hk5 hz5
          simp only [List.take_succ_cons, List.take_zero, List.drop_succ_cons, List.drop_zero]
          have f0 : w5.cell? ⟨wr.heap.size, 0, none⟩ = some (.int .i64 m) := (hk5.blk HW4.out (fun h => h)).cell 0
          have f1 : w5.cell? ⟨wr.heap.size, 1, none⟩ = some (.slice pa 64 pc) := (hk5.blk HW4.out (fun h => h)).cell 1
          have hkr5 : Kept (fun _ => False) wr w5 := HK34.out.trans hk5 (fun _ _ h => h)
          have hs5 := HSA.out.kept hkr5
          rw [← HS.out] at hs5
          have HS5 := hide hs5
          have hw1 : IntKind.i64.wrap (64 * (m : Int)) = ((64 * m : Nat) : Int) := by rw [IntKind.wrap_i64]; have := HN.out; omega
          have hw2 : IntKind.i64.wrap (64 * (m : Int) + 64) = ((64 * m + 64 : Nat) : Int) := by rw [IntKind.wrap_i64]; have := HN.out; omega
          have HK5 := hide (HK4.out.trans hk5 (fun _ _ h => h))
          clear e0 e1 hkr5 hk5 hz5 hkr hs5
          still_step
          still_step
          still_step
          still_step
          refine wpStill_run rfl (r_hi9 (B := X) (64 * m) (by have := HXl.out; have := Hmn.out; omega) rfl rfl) ?_
          still_step
          still_step
          refine wpStill_run rfl (r_strS rfl HS5.out) ?_
          refine wpStill_run rfl (r_add9 (A := X.take (64 * m)) (B := l[k].B) (by rw [List.length_take, ← HPN.out]; have := Hmn.out; have := HN.out; omega) rfl rfl) ?_
          still_step
          still_step
          still_step
          still_step
          still_step
          refine wpStill_run rfl (r_lo9 (B := X) (64 * m + 64) (by have := HXl.out; have := Hmn.out; omega) rfl rfl) ?_
          refine wpStill_run rfl (r_add9 (A := X.take (64 * m) ++ l[k].B) (B := X.drop (64 * m + 64)) (by have := HXl.out; simp only [List.length_append, List.length_take, List.length_drop, ← HPN.out]; have := Hmn.out; have := HN.out; omega) rfl rfl) ?_
          refine wpStill_nil ?_
          have hput : Hid (X.take (64 * m) ++ l[k].B ++ X.drop (64 * m + 64) = withB d ((l.map Wv.wr).take (k + 1))) := hide (by
            rw [withB_take1 hlm, wr_get hlt, ← HX.out]
            simp only
            rw [← HP.out, Int.toNat_natCast]
            rfl)
          rw [hput.out]
          have hke : Hid (withE n ((l.map Wv.wr).take (k + 1)) = 0) := hide (withE_take1 hlm HE.out (by rw [wr_get hlt]; simp only; rw [← HP.out]; exact hin) (by rw [wr_get hlt]; exact HPN.out.symm))
          clear hw1 hw2 f0 f1
          go_wp2
          go_roundw
          case rel => exact ⟨k + 1, by simp, by omega, hke, rfl, HK5.out⟩
          case measure => simp [intOf]; omega
        · go_wp2_with (first
            | ((with_reducible refine aw_alloc (t := 68) (dst := some 7) Hi0.out Hz0.out ?_); intro w3 hw3 hk3 hz3; have Hz3 := hide hz3; clear hz3 c0 c1)
            | ((with_reducible refine aw_store (M := [.int .i64 p, .slice pa pn pc]) Try.agg68 rfl rfl rfl (by simp [Value.oneCell']) hw3 (by simp [Value.cells]) ?_); intro w4 hw4 hk4 hz4; rw [put_whole _ _ (by simp [Value.cells])] at hw4; have HK4 := hide (hkr.trans (hk3.trans hk4 (S := fun _ => False) (fun i hi h => by omega)) (fun _ _ h => h)); have e0 : w4.cell? ⟨wr.heap.size, 0, none⟩ = some (.int .i64 p) := hw4.cell 0; have e1 : w4.cell? ⟨wr.heap.size, 1, none⟩ = some (.slice pa pn pc) := hw4.cell 1; clear hz4 hw3 hk3 hk4)
            | (go_at_call 62; refine (rget_at _ X n HXl.out HN.out p true (by simpa using hin)).mono ?_; rintro e w5 ⟨rfl, rfl⟩))
          go_ret2
          have he : withE n (l.map Wv.wr) = 42 := by rw [HSTEP.out, ← HP.out, if_neg (by simpa using hin), if_pos (by rw [← HPN.out]; exact h64)]
          exact ⟨[], by rw [he]; rfl, fun h => absurd (he.symm.trans h) (by decide), HK4.out⟩
      · go_wp2_with (first
          | ((with_reducible refine aw_alloc (t := 68) (dst := some 7) Hi0.out Hz0.out ?_); intro w3 hw3 hk3 hz3; have Hz3 := hide hz3; clear hz3 c0 c1)
          | ((with_reducible refine aw_store (M := [.int .i64 p, .slice pa pn pc]) Try.agg68 rfl rfl rfl (by simp [Value.oneCell']) hw3 (by simp [Value.cells]) ?_); intro w4 hw4 hk4 hz4; rw [put_whole _ _ (by simp [Value.cells])] at hw4; have HK4 := hide (hkr.trans (hk3.trans hk4 (S := fun _ => False) (fun i hi h => by omega)) (fun _ _ h => h)); have e0 : w4.cell? ⟨wr.heap.size, 0, none⟩ = some (.int .i64 p) := hw4.cell 0; have e1 : w4.cell? ⟨wr.heap.size, 1, none⟩ = some (.slice pa pn pc) := hw4.cell 1; clear hz4 hw3 hk3 hk4)
          | (go_at_call 62; refine (rget_at _ X n HXl.out HN.out p false (by simpa using hin)).mono ?_; rintro e w5 ⟨rfl, rfl⟩))
        go_ret2
        have he : withE n (l.map Wv.wr) = 41 := by rw [HSTEP.out, ← HP.out, if_pos hin]
        exact ⟨[], by rw [he]; rfl, fun h => absurd (he.symm.trans h) (by decide), HK4.out⟩
    · obtain rfl : k = l.length := by omega
      go_wp2
      go_ret2
      have htk : (l.map Wv.wr).take l.length = l.map Wv.wr := List.take_of_length_le (by simp)
      have he := HE.out
      rw [htk] at he
      refine ⟨X, by rw [he]; rfl, fun _ => by rw [HX.out, htk], hkr⟩
end Go.Proofs.Ytnlcmgdeohbmoaa

/-
  The document's own pool, as a value; its device's calls, however it stands.
-/
namespace Go.Proofs.Ytnlcmgdeohbmoaa
open Go.RowKit Go.Shelf
set_option linter.unusedSimpArgs false
set_option linter.unusedVariables false
set_option maxRecDepth 100000

theorem Try.info37 : (Try.prog.info? 37).map (fun i => (i.zero, i.size, i.bytes)) = some (some (.agg #[.string ⟨#[]⟩, .slice none 0 0, .int .i64 0, .int .i64 0, .bool false, .int .i64 0, .slice none 0 0, .slice none 0 0]), 8, 120) := by kernel_rfl
theorem Try.agg37 : aggSize Try.prog 37 8 := by
  obtain ⟨i0, hi, _, hs, _⟩ := info_parts Try.info37
  exact ⟨⟨i0, hi, hs⟩, _, Try.underlying37, .inr ⟨_, rfl⟩⟩
theorem Try.info9 : (Try.prog.info? 9).map (fun i => (i.zero, i.size, i.bytes)) = some (some (.string ⟨#[]⟩), 1, 16) := by kernel_rfl
theorem Try.info4 : (Try.prog.info? 4).map (fun i => (i.zero, i.size, i.bytes)) = some (some (.bool false), 1, 1) := by kernel_rfl
/-- What a device's numbers keep. -/
structure DOk (s : D.DS) (nd : Nat) : Prop where
  n2 : nd ≤ 4096
  hl : s.st.length = 64 * nd
  hB : ∀ v ∈ s.st, D.isByte v
  ok : ∀ p ∈ s.ws, D.okWait nd p
  l1 : -1 ≤ s.left
  l2 : s.left ≤ 9223372036854775807
theorem D.DevAt.dok {w : World} {b n : Nat} {s : D.DS} {F : NSet} (h : D.DevAt w b n s F) : DOk s n := by
  obtain ⟨bs, wv, hd, _⟩ := h
  exact ⟨hd.n2, hd.hl, hd.hB, hd.ok, hd.l1, hd.l2⟩
/-- The waiting sectors of the document's device. -/
def WtAt (w : World) (rv : Value) (s : D.DS) : Prop := w.ownsRow 0 102 2 rv s.ws.length (D.flatR s.ws)
theorem WtAt.kept {w w' : World} {rv : Value} {s : D.DS} (h : WtAt w rv s) (hk : Kept (fun _ => False) w w') : WtAt w' rv s := ownsRow_kept h hk (fun _ _ h => h)
theorem WtAt.keptT {w w' : World} {rv : Value} {s : D.DS} (h : WtAt w rv s) (hk : KeptT w w') : WtAt w' rv s := by
  rcases ownsRow_blk h with ⟨rfl, h1, h2⟩ | ⟨g, cap, C, rfl, hb, hnc, hcm, hC⟩
  · unfold WtAt
    rw [h1, h2]
    exact World.ownsRow_nil _ _ _ _
  · exact ownsRow_of (hk _ _ _ (by decide) (by decide) (by decide) (by decide) (by decide) (by decide) hb) h.1 hnc hcm hC
theorem WtAt.slice {w : World} {rv : Value} {s : D.DS} (h : WtAt w rv s) : ∃ ro rc, rv = .slice ro s.ws.length rc := ownsRow_slice h
theorem WtAt.nil (w : World) {s : D.DS} (h : s.ws = []) : WtAt w (.slice none 0 0) s := by
  unfold WtAt
  rw [h]
  exact World.ownsRow_nil _ _ _ _
theorem strV_NV {L : List Value} (h : ∀ v ∈ L, D.isByte v) : D.strV L = strN (NV L) := by
  have : strN (NV L) = D.strV (BV (NV L)) := by
    apply D.ba_ext
    rw [D.strV_data, strN_data]
    simp [BV, D.numOf, Function.comp_def]
  rw [this, BV_NV h]
theorem strV_nil : D.strV [] = strN [] := rfl
/-- Read of one sector. -/
def rE (s : D.DS) : Int := if s.off then 10 else 0
def rV (s : D.DS) (a : Nat) : List Nat := if s.off then [] else NV (D.part s.view a 1)
theorem rread1_at (w : World) (s : D.DS) (nd : Nat) (hs : DOk s nd) (rv : Value) (hw : WtAt w rv s) (a : Nat) (ha : a + 1 ≤ nd) :
    Calls Try.prog 41 #[D.refA s rv, .int .i64 a, .int .i64 1] w fun e w' => e = .returned (.tuple #[.string (strN (rV s a)), .int .i64 (rE s)]) ∧ Kept (fun _ => False) w w' := by
  obtain ⟨ro, rc, rfl⟩ := hw.slice
  unfold rV rE
  cases ho : s.off with
  | true =>
    simp only [if_true]
    exact D.refRead_off w s ro _ rc a 1 ho
  | false =>
    have h := D.refRead_ok w s nd hs.hl hs.n2 _ hw hs.ok hs.hB a 1 ha ho
    simp only [Bool.false_eq_true, if_false]
    have hb : ∀ v ∈ D.part s.view a 1, D.isByte v := part_byte (D.laidTo_ok (fun _ => true) nd s.ws s.st hs.ok hs.hl hs.hB s.ws.length (Nat.le_refl _)).2 a 1
    rw [strV_NV hb] at h
    exact h
/-- Write of one sector. -/
theorem rwrite1_at (w : World) (s : D.DS) (nd : Nat) (hs : DOk s nd) (rv : Value) (hw : WtAt w rv s) (a : Nat) (ha : a + 1 ≤ nd) (bc : Nat) (g o : Nat) (A : List Nat) (hA : A.length = 64) (hAb : ∀ x ∈ A, x < 256) (hbc : 64 ≤ bc) (hc : Cells w g o (BV A)) (hca : s.calls < 4611686018427387904) (hlen : s.ws.length + 1 < 1000000000) :
    Calls Try.prog 42 #[D.refA s rv, .int .i64 a, .slice (some ⟨g, o, none⟩) 64 bc] w fun e w' => ∃ rv', e = .returned (.tuple #[D.refA (wDev s a 1 A) rv', .int .i64 (wErr s)]) ∧ WtAt w' rv' (wDev s a 1 A) ∧ Kept (fun _ => False) w w' := by
  unfold wDev wErr
  cases ho : s.off with
  | true =>
    obtain ⟨ro, rc, rfl⟩ := hw.slice
    simp only [if_true]
    refine (D.refWrite_off w s ro _ rc a (some ⟨g, o, none⟩) 64 bc ho).mono ?_
    rintro e w' ⟨rfl, hk⟩
    exact ⟨_, rfl, hw.kept hk, hk⟩
  | false =>
    simp only [Bool.false_eq_true, if_false]
    by_cases hz : s.left = 0
    · obtain ⟨ro, rc, rfl⟩ := hw.slice
      rw [if_pos hz, if_pos hz]
      refine (D.refWrite_limit w s nd hs.hl hs.n2 ro _ rc a (by have := hs.n2; omega) (some ⟨g, o, none⟩) 1 bc (by decide) ho (D.hasB_nat nd a 1 ha) hz hca).mono ?_
      rintro e w' ⟨rfl, hk⟩
      refine ⟨_, rfl, ?_, hk⟩
      have := hw.kept hk
      unfold WtAt D.DS.spent at *
      rw [if_pos hz]
      exact this
    · rw [if_neg hz, if_neg hz]
      refine (D.refWrite_ok w s nd hs.hl hs.n2 rv hw a 1 bc (some ⟨g, o, none⟩) (BV A) (by rw [BV_length, hA]) (BV_isByte hAb) (by omega) (fun _ => ⟨g, o, rfl, hc⟩) ha ho hz hs.l1 hs.l2 hca hlen).mono ?_
      rintro e w' ⟨rv', rfl, ho', hk⟩
      exact ⟨rv', rfl, D.ownsRow_zero ho', hk⟩
theorem rflush_at (w : World) (s : D.DS) (nd : Nat) (hs : DOk s nd) (rv : Value) (hw : WtAt w rv s) (hca : s.calls < 4611686018427387904) :
    Calls Try.prog 43 #[D.refA s rv] w fun e w' => ∃ rv', e = .returned (.tuple #[D.refA s.flushed rv', .int .i64 s.errF]) ∧ WtAt w' rv' s.flushed ∧ Kept (fun _ => False) w w' := by
  unfold D.DS.flushed D.DS.errF D.DS.errS
  cases ho : s.off with
  | true =>
    obtain ⟨ro, rc, rfl⟩ := hw.slice
    simp only [if_true]
    refine (D.refFlush_off w s ro _ rc ho).mono ?_
    rintro e w' ⟨rfl, hk⟩
    exact ⟨_, rfl, hw.kept hk, hk⟩
  | false =>
    simp only [Bool.false_eq_true, if_false]
    by_cases hz : s.left = 0
    · obtain ⟨ro, rc, rfl⟩ := hw.slice
      rw [if_pos hz, if_pos hz]
      refine (D.refFlush_limit w s ro _ rc ho hz hs.l1 hs.l2 hca).mono ?_
      rintro e w' ⟨rfl, hk⟩
      refine ⟨_, rfl, ?_, hk⟩
      have := hw.kept hk
      unfold WtAt D.DS.spent at *
      rw [if_pos hz]
      exact this
    · rw [if_neg hz, if_neg hz]
      refine (D.refFlush_ok w s nd hs.hl hs.n2 rv hw hs.ok hs.hB ho hz hs.l1 hs.l2 hca).mono ?_
      rintro e w' ⟨rfl, hk⟩
      exact ⟨_, rfl, WtAt.nil w' rfl, hk⟩
/-- Texts and truths in a slice of their own. -/
def HV (H : List (List Nat)) : List Value := H.map fun B => .string (strN B)
def TV (T : List Bool) : List Value := T.map .bool
theorem HV_length (H : List (List Nat)) : (HV H).length = H.length := by simp [HV]
theorem TV_length (T : List Bool) : (TV T).length = T.length := by simp [TV]
theorem HV_one (H : List (List Nat)) : ∀ u ∈ HV H, u.oneCell' = true := by
  intro u hu
  simp only [HV, List.mem_map] at hu
  obtain ⟨k, _, rfl⟩ := hu
  rfl
theorem TV_one (T : List Bool) : ∀ u ∈ TV T, u.oneCell' = true := by
  intro u hu
  simp only [TV, List.mem_map] at hu
  obtain ⟨k, _, rfl⟩ := hu
  rfl
theorem HV_get {H : List (List Nat)} {k : Nat} (h : k < H.length) : (HV H)[k]? = some (.string (strN H[k])) := by simp [HV, h]
theorem TV_get {T : List Bool} {k : Nat} (h : k < T.length) : (TV T)[k]? = some (.bool T[k]) := by simp [TV, h]
theorem HV_set {H : List (List Nat)} {C : List Value} {k : Nat} (h : k < H.length) (B : List Nat) : (HV H ++ C).set k (.string (strN B)) = HV (H.set k B) ++ C := by
  rw [List.set_append_left _ _ (by rw [HV_length]; exact h)]
  unfold HV
  rw [List.map_set]
theorem TV_set {T : List Bool} {C : List Value} {k : Nat} (h : k < T.length) (b : Bool) : (TV T ++ C).set k (.bool b) = TV (T.set k b) ++ C := by
  rw [List.set_append_left _ _ (by rw [TV_length]; exact h)]
  unfold TV
  rw [List.map_set]
/-- A slice that lies in a block of type t, from its beginning on. -/
def RowB (w : World) (v : Value) (n : Nat) (vs : List Value) (t : TypeId) (N : Nat) : Prop := ∃ g cap C, v = .slice (some ⟨g, 0, none⟩) n cap ∧ Blk w g (vs ++ C) t ∧ n ≤ cap ∧ cap ≤ maxLen ∧ C.length = cap - n ∧ vs.length = n ∧ N ≤ g
theorem RowB.kept {w w' : World} {v : Value} {n N : Nat} {vs : List Value} {t : TypeId} (h : RowB w v n vs t N) (hk : Kept (fun _ => False) w w') : RowB w' v n vs t N := by
  obtain ⟨g, cap, C, h1, h2, h3⟩ := h
  exact ⟨g, cap, C, h1, hk.blk h2 (fun h => h), h3⟩
theorem RowB.mono {w : World} {v : Value} {n N M : Nat} {vs : List Value} {t : TypeId} (h : RowB w v n vs t N) (hm : M ≤ N) : RowB w v n vs t M := by
  obtain ⟨g, cap, C, h1, h2, h3, h4, h5, h6, h7⟩ := h
  exact ⟨g, cap, C, h1, h2, h3, h4, h5, h6, Nat.le_trans hm h7⟩
theorem RowB.keptT {w w' : World} {v : Value} {n N : Nat} {vs : List Value} {t : TypeId} (h : RowB w v n vs t N) (hk : KeptT w w') (ht : t = 9 ∨ t = 4) : RowB w' v n vs t N := by
  obtain ⟨g, cap, C, h1, h2, h3⟩ := h
  refine ⟨g, cap, C, h1, hk _ _ _ ?_ ?_ ?_ ?_ ?_ ?_ h2, h3⟩ <;> (rcases ht with rfl | rfl <;> decide)
theorem RowB.own {w : World} {v : Value} {n N : Nat} {vs : List Value} {t : TypeId} (h : RowB w v n vs t N) : w.ownsRow 0 t 1 v n vs := by
  obtain ⟨g, cap, C, rfl, h2, h3, h4, h5, h6, h7⟩ := h
  exact ownsRow_of h2 (by omega) h3 h4 (by omega)
theorem RowB.cell {w : World} {v : Value} {n N : Nat} {vs : List Value} {t : TypeId} (h : RowB w v n vs t N) : ∃ g cap, v = .slice (some ⟨g, 0, none⟩) n cap ∧ ∀ k x, vs[k]? = some x → w.cell? ⟨g, k, none⟩ = some x := by
  obtain ⟨g, cap, C, rfl, h2, h3, h4, h5, h6, h7⟩ := h
  refine ⟨g, cap, rfl, fun k x hx => ?_⟩
  rw [h2.cell, List.getElem?_append_left (List.getElem?_eq_some_iff.1 hx).1]
  exact hx
/-- The document's pool as a value. -/
def refPL (s : D.DS) (rv : Value) (fr : Nat) (hv dv : Value) : List Value := [.string (D.strV s.st), rv, .int .i64 s.calls, .int .i64 s.left, .bool s.off, .int .i64 fr, hv, dv]
def refP (s : D.DS) (rv : Value) (fr : Nat) (hv dv : Value) : Value := .agg (refPL s rv fr hv dv).toArray
theorem refPL_len (s : D.DS) (rv : Value) (fr : Nat) (hv dv : Value) : (refPL s rv fr hv dv).length = 8 := rfl
/-- .. and what it stands on. -/
structure RfP (w : World) (N nd : Nat) (s : D.DS) (rv : Value) (fr n : Nat) (hv dv : Value) (H : List (List Nat)) (T : List Bool) : Prop where
  dok : DOk s nd
  wt : WtAt w rv s
  hh : RowB w hv n (HV H) 9 N
  hd : RowB w dv n (TV T) 4 N
  fit : fr + n ≤ nd
  n64 : 1 ≤ n ∧ n ≤ 64
theorem RfP.kept {w w' : World} {N nd : Nat} {s : D.DS} {rv : Value} {fr n : Nat} {hv dv : Value} {H : List (List Nat)} {T : List Bool} (h : RfP w N nd s rv fr n hv dv H T) (hk : Kept (fun _ => False) w w') : RfP w' N nd s rv fr n hv dv H T :=
  { h with wt := h.wt.kept hk, hh := h.hh.kept hk, hd := h.hd.kept hk }
theorem RfP.keptT {w w' : World} {N nd : Nat} {s : D.DS} {rv : Value} {fr n : Nat} {hv dv : Value} {H : List (List Nat)} {T : List Bool} (h : RfP w N nd s rv fr n hv dv H T) (hk : KeptT w w') : RfP w' N nd s rv fr n hv dv H T :=
  { h with wt := h.wt.keptT hk, hh := h.hh.keptT hk (.inl rfl), hd := h.hd.keptT hk (.inr rfl) }
theorem RfP.lens {w : World} {N nd : Nat} {s : D.DS} {rv : Value} {fr n : Nat} {hv dv : Value} {H : List (List Nat)} {T : List Bool} (h : RfP w N nd s rv fr n hv dv H T) : H.length = n ∧ T.length = n := by
  obtain ⟨_, _, _, _, _, _, _, _, h1, _⟩ := h.hh
  obtain ⟨_, _, _, _, _, _, _, _, h2, _⟩ := h.hd
  rw [HV_length] at h1
  rw [TV_length] at h2
  exact ⟨h1, h2⟩
theorem refPL_one {s : D.DS} {ro : Option Addr} {rl rc : Nat} {fr : Nat} {ho : Option Addr} {hl hc : Nat} {do' : Option Addr} {dl dc : Nat} : ∀ v ∈ refPL s (.slice ro rl rc) fr (.slice ho hl hc) (.slice do' dl dc), v.oneCell' = true := by
  intro v hv
  simp [refPL] at hv
  rcases hv with rfl | rfl | rfl | rfl | rfl | rfl | rfl | rfl <;> rfl
end Go.Proofs.Ytnlcmgdeohbmoaa
