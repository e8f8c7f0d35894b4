/-
  hasAll, Note.
-/
import Derived.Test.YteijgdfgdhafnaaMkNew
namespace Go.Proofs.Yteijgdfgdhafnaa
open Go.RowKit Go.Shelf
set_option linter.unusedSimpArgs false
set_option linter.unusedVariables false
set_option maxRecDepth 100000

/-- The blocks of writes. -/
def bks (l : List Wv) : List Int := l.map Wv.blk
theorem bks_len (l : List Wv) : (bks l).length = l.length := by simp [bks]
theorem bks_get {l : List Wv} {k : Nat} (h : k < l.length) : (bks l)[k]'(by rw [bks_len]; exact h) = l[k].blk := by simp [bks]
/-- v is a slice that holds writes: their blocks alone. -/
def BsAt (w : World) (v : Value) (l : List Wv) : Prop := SrcEB w v (l.map Wv.ent) ∧ l.length ≤ 9223372036854775807
theorem WsAt.bs {w : World} {v : Value} {l : List Wv} (h : WsAt w v l) : BsAt w v l := ⟨h.1, h.2.2⟩
theorem BsAt.keptX {S : Nat → Prop} {w w' : World} {v : Value} {l : List Wv} (h : BsAt w v l) (hk : Kept S w w') (hS : ∀ k, vX v k → 0 < l.length → ¬ S k) : BsAt w' v l := by
  obtain ⟨⟨ao, cap, h1, h2, h3⟩, h5⟩ := h
  refine ⟨⟨ao, cap, h1, h2, fun h0 => ?_⟩, h5⟩
  obtain ⟨g, off, e, hc⟩ := h3 h0
  exact ⟨g, off, e, hk.cells hc (hS g ⟨off, _, _, by rw [h1, e]⟩ (by rw [List.length_map] at h0; exact h0))⟩
theorem BsAt.kept {w w' : World} {v : Value} {l : List Wv} (h : BsAt w v l) (hk : Kept (fun _ => False) w w') : BsAt w' v l := h.keptX hk (fun _ _ _ h => h)
theorem BsAt.slice {w : World} {v : Value} {l : List Wv} (h : BsAt w v l) : ∃ ao cap, v = .slice ao l.length cap := by
  obtain ⟨⟨ao, cap, h1, _⟩, _⟩ := h
  exact ⟨ao, cap, by rw [h1, List.length_map]⟩
theorem BsAt.get {w : World} {ao : Option Addr} {n c : Nat} {l : List Wv} (h : BsAt w (.slice ao n c) l) {k : Nat} (hk : k < l.length) :
    ∃ g off, ao = some ⟨g, off, none⟩ ∧ w.cell? ⟨g, off + k * 2, none⟩ = some (.int .i64 l[k].blk) ∧ w.cell? ⟨g, off + k * 2 + 1, none⟩ = some (.slice l[k].s.a l[k].s.n l[k].s.c) := by
  obtain ⟨⟨ao', cap, h1, h2, h3⟩, h5⟩ := h
  cases h1
  obtain ⟨g, off, rfl, hc⟩ := h3 (by rw [List.length_map]; omega)
  have hk' : k < (l.map Wv.ent).length := by rw [List.length_map]; exact hk
  have a := hc _ _ (encE_key (ek := ekB) (ev := evB) (l.map Wv.ent) k hk')
  have b := hc _ _ (encE_val (ek := ekB) (ev := evB) (l.map Wv.ent) k hk')
  rw [List.getElem_map] at a b
  exact ⟨g, off, rfl, a, b⟩
theorem BsAt.vx {w : World} {v : Value} {l : List Wv} (h : BsAt w v l) (k : Nat) (hv : vX v k) (h0 : 0 < l.length) : k < w.heap.size := by
  obtain ⟨⟨ao, cap, h1, h2, h3⟩, h5⟩ := h
  obtain ⟨g, off, e, hc⟩ := h3 (by rw [List.length_map]; exact h0)
  obtain ⟨off', m, c, e2⟩ := hv
  rw [h1, e] at e2
  cases e2
  have hk' : 0 < (l.map Wv.ent).length := by rw [List.length_map]; exact h0
  exact World.block_lt_of_cell? w _ (hc _ _ (encE_key (ek := ekB) (ev := evB) (l.map Wv.ent) 0 hk'))
theorem all_take_succ {p : Int → Bool} {l : List Int} {k : Nat} (h : k < l.length) : (l.take (k + 1)).all p = ((l.take k).all p && p l[k]) := by
  rw [List.take_succ_eq_append_getElem h, List.all_append]
  simp
theorem all_false {p : Int → Bool} {l : List Int} {k : Nat} (h : k < l.length) (hp : p l[k] = false) : l.all p = false := by
  rw [Bool.eq_false_iff]
  intro ha
  have := List.all_eq_true.1 ha _ (List.getElem_mem h)
  rw [hp] at this
  cases this
set_option maxHeartbeats 2000000 in
theorem hasAll_at (w : World) (b g cap : Nat) (C : List Value) (l : List Int) (h : MkAt w b g cap C l) (v : Value) (ws : List Wv) (hws : BsAt w v ws) (r : Bool) (hr : (bks ws).all (mkIn l.length) = r) :
    Calls Try.prog 17 #[.pointer (some ⟨b, 0, none⟩), v] w fun e w' => e = .returned (.bool r) ∧ Kept (fun _ => False) w w' := by
  obtain ⟨va, vc, rfl⟩ := hws.slice
  have HL := hide hws
  have hl := hws.2
  have HM := hide h
  have HR := hide hr
  obtain ⟨i0, hi0, hz0, hs0, hb0⟩ := info_parts Try.info47
  have Hi0 := hide hi0
  have Hz0 := hide hz0
  have Hhas := hide (fun (w' : World) (hk : Kept (fun _ => False) w w') (k : Int) (r : Bool) (hr : mkIn l.length k = r) => has_at w' b g cap C l (h.kept hk) k r hr)
  clear h hws hr hi0 hz0 hs0 hb0
  go_enter Try.func17, Try.ntmps17
  go_wp2
  go_loopw [9] (fun i wr => ∃ k : Nat, i = .int .i64 k ∧ k ≤ ws.length ∧ Hid (((bks ws).take k).all (mkIn l.length) = true) ∧ Hid (Kept (fun _ => False) w wr)) (fun i _ => ws.length - (intOf i).toNat)
  case atStart => exact ⟨0, rfl, Nat.zero_le _, hide rfl, hide (Kept.refl _ _)⟩
  case round =>
    obtain ⟨k, rfl, hk, HE, HK⟩ := hrel
    by_cases hlt : k < ws.length
    · obtain ⟨ga, off, rfl, c0, c1⟩ := (HL.out.kept HK.out).get hlt
      have hlb : k < (bks ws).length := by rw [bks_len]; exact hlt
      have HS := hide (all_take_succ (p := mkIn l.length) hlb)
      have HF := hide (all_false (p := mkIn l.length) hlb)
      rw [bks_get hlt, HE.out, Bool.true_and] at HS
      rw [bks_get hlt] at HF
      obtain ⟨p, hp⟩ : ∃ p, p = ws[k].blk := ⟨_, rfl⟩
      obtain ⟨⟨pa, pn, pc⟩, hs⟩ : ∃ s, s = ws[k].s := ⟨_, rfl⟩
      rw [← hp] at c0 HS HF
      rw [← hs] at c1
      simp only at c1
      clear hp hs hlb HE
      obtain ⟨q, hq⟩ : ∃ q, mkIn l.length p = q := ⟨_, rfl⟩
      have HQ := hide hq
      rw [hq] at HS HF
      clear hq
      go_wp2_with (first
        | ((with_reducible refine aw_alloc (t := 47) (dst := some 6) Hi0.out Hz0.out ?_); intro w3 hw3 hk3 hz3; have Hz3 := hide hz3; clear hz3 c0 c1)
        | ((with_reducible refine aw_store (M := [.int .i64 p, .slice pa pn pc]) Try.agg47 rfl rfl rfl (by simp [Value.oneCell']) hw3 (by simp [Value.cells]) ?_); intro w4 hw4 hk4 hz4; rw [put_whole _ _ (by simp [Value.cells])] at hw4; have HK34 := hide (hk3.trans hk4 (S := fun _ => False) (fun i hi h => by omega)); have HK4 := hide (HK.out.trans HK34.out (fun _ _ h => h)); have e0 : w4.cell? ⟨wr.heap.size, 0, none⟩ = some (.int .i64 p) := hw4.cell 0; clear hz4 hw3 hk3 hk4 hw4)
        | (go_at_call 18; refine (Hhas.out _ HK4.out p q HQ.out).mono ?_; rintro e w5 ⟨rfl, rfl⟩; cases q))
      · go_wp2
        go_ret
        exact ⟨by rw [← HR.out, HF.out (by first | trivial | rfl)]; rfl, HK4.out⟩
      · go_wp2
        go_roundw
        case rel => exact ⟨k + 1, by simp, by omega, HS, HK4⟩
        case measure => simp [intOf]; omega
    · obtain rfl : k = ws.length := by omega
      have HE2 := HE.out
      rw [List.take_of_length_le (by rw [bks_len]; exact Nat.le_refl _)] at HE2
      have HE2 := hide HE2
      clear HE
      go_wp2
      go_ret
      exact ⟨by rw [← HR.out, HE2.out]; rfl, HK.out⟩
theorem most_lt (n : Int) : ∀ (l : List Int) (a : Int), n < l.foldl max a ↔ (n < a ∨ l.any (fun k => decide (n < k)) = true)
  | [], a => by simp
  | x :: l, a => by
    rw [List.foldl_cons, most_lt n l (max a x), List.any_cons, Bool.or_eq_true, decide_eq_true_eq]
    constructor
    · rintro (h | h)
      · by_cases h2 : n < a
        · exact .inl h2
        · exact .inr (.inl (by omega))
      · exact .inr (.inr h)
    · rintro (h | h | h)
      · exact .inl (by omega)
      · exact .inl (by omega)
      · exact .inr h
theorem most_any {l : List Int} {n : Int} (h : 0 ≤ n) : n < mkMost l ↔ l.any (fun k => decide (n < k)) = true := by
  unfold mkMost
  rw [most_lt]
  constructor
  · rintro (h | h)
    · omega
    · exact h
  · exact .inr
theorem set_take_succ {l bs : List Int} {n : Int} {k : Nat} (h : k < bs.length) : mkSet l n (bs.take (k + 1)) = (mkSet l n (bs.take k)).set bs[k].toNat n := by
  unfold mkSet
  rw [List.take_succ_eq_append_getElem h, List.foldl_append]
  rfl
theorem ZV_set {l : List Int} {C : List Value} {k : Nat} (h : k < l.length) (n : Int) : (ZV l ++ C).set k (.int .i64 n) = ZV (l.set k n) ++ C := by
  rw [List.set_append_left _ _ (by rw [ZV_length]; exact h)]
  unfold ZV
  rw [List.map_set]
theorem MkAt.set {w w' : World} {b g cap : Nat} {C : List Value} {l : List Int} (h : MkAt w b g cap C l) {k : Nat} (hk : k < l.length) (n : Int) (hw : Blk w' g ((ZV l ++ C).set k (.int .i64 n)) 3) (hkp : Kept (fun j => j = g) w w') : MkAt w' b g cap C (l.set k n) :=
  ⟨by rw [List.length_set]; exact hkp.blk h.1 h.ne, by rw [← ZV_set hk]; exact hw, by rw [List.length_set]; exact h.2.2.1, by rw [List.length_set]; exact h.2.2.2⟩
set_option maxHeartbeats 2000000 in
theorem note_ok (w : World) (b g cap : Nat) (C : List Value) (l : List Int) (h : MkAt w b g cap C l) (n : Int) (v : Value) (ws : List Wv) (hws : BsAt w v ws) (hx : ∀ k, vX v k → 0 < ws.length → k ≠ g) (h1 : mkNum n = true) (h2 : ¬ n < mkMost l) (h3 : (bks ws).all (mkIn l.length) = true) :
    Calls Try.prog 8 #[.pointer (some ⟨b, 0, none⟩), .int .i64 n, v] w fun e w' => e = .returned (.int .i64 0) ∧ MkAt w' b g cap C (mkSet l n (bks ws)) ∧ Kept (fun k => k = g) w w' := by
  obtain ⟨va, vc, rfl⟩ := hws.slice
  have hl := hws.2
  have HL := hide hws
  have HX := hide hx
  have HM := hide h
  have HC := hide (isCommit_at w n true h1)
  have HMo := hide (most_at w b g cap C l h)
  have HA := hide (hasAll_at w b g cap C l h _ ws hws true h3)
  have H3 := hide h3
  obtain ⟨mo, hmo⟩ : ∃ mo, mkMost l = mo := ⟨_, rfl⟩
  rw [hmo] at HMo h2
  obtain ⟨i0, hi0, hz0, hs0, hb0⟩ := info_parts Try.info47
  have Hi0 := hide hi0
  have Hz0 := hide hz0
  obtain ⟨i3, hi3, hz3, hs3, hb3⟩ := info_parts Try.info3
  have Hi3 := hide hi3
  have Hs3 := hide hs3
  clear h hws h1 h3 hmo hi0 hz0 hs0 hb0 hi3 hz3 hs3 hb3 hx
  go_enter Try.func8, Try.ntmps8
  go_wp2_with (first
    | (go_at_call 15; refine HC.out.mono ?_; rintro e w1 ⟨rfl, rfl⟩)
    | (go_at_call 11; refine HMo.out.mono ?_; rintro e w1 ⟨rfl, rfl⟩)
    | (go_at_call 17; refine HA.out.mono ?_; rintro e w1 ⟨rfl, hk1⟩; have HK1 := hide hk1; clear hk1))
  go_loopw [24] (fun i wr => ∃ k : Nat, i = .int .i64 k ∧ k ≤ ws.length ∧ Hid (MkAt wr b g cap C (mkSet l n ((bks ws).take k))) ∧ Hid (Kept (fun j => j = g) w wr)) (fun i _ => ws.length - (intOf i).toNat)
  case atStart => exact ⟨0, rfl, Nat.zero_le _, hide (HM.out.kept HK1.out), hide (HK1.out.mono (fun _ _ h => h.elim))⟩
  case round =>
    obtain ⟨k, rfl, hk, HE, HK⟩ := hrel
    by_cases hlt : k < ws.length
    · obtain ⟨ga, off, rfl, c0, c1⟩ := (HL.out.keptX HK.out HX.out).get hlt
      have hlb : k < (bks ws).length := by rw [bks_len]; exact hlt
      have HS := hide (set_take_succ (l := l) (n := n) hlb)
      have hp0 : mkIn l.length ws[k].blk = true := List.all_eq_true.1 H3.out _ (by rw [← bks_get hlt]; exact List.getElem_mem _)
      have hp1 : 0 ≤ ws[k].blk ∧ ws[k].blk < (l.length : Int) := of_decide_eq_true hp0
      rw [bks_get hlt] at HS
      obtain ⟨p, hp⟩ : ∃ p, p = ws[k].blk := ⟨_, rfl⟩
      obtain ⟨⟨pa, pn, pc⟩, hs⟩ : ∃ s, s = ws[k].s := ⟨_, rfl⟩
      rw [← hp] at c0 HS hp1
      rw [← hs] at c1
      simp only at c1
      obtain ⟨m, rfl⟩ : ∃ m : Nat, p = m := ⟨p.toNat, by omega⟩
      rw [Int.toNat_natCast] at HS
      have hml : m < (mkSet l n ((bks ws).take k)).length := by rw [mkSet_length]; omega
      have Hml := hide hml
      obtain ⟨lc, hlc⟩ : ∃ lc, mkSet l n ((bks ws).take k) = lc := ⟨_, rfl⟩
      rw [hlc] at Hml HS HE hml
      have hmI : (m : Int) < (lc.length : Int) := by omega
      obtain ⟨nn, hnn⟩ : ∃ nn, lc.length = nn := ⟨_, rfl⟩
      have Hnn := hide hnn
      rw [hnn] at hmI hml
      clear hp hs hlb hp0 hp1 hlc hnn
      go_wp2_with (first
        | ((with_reducible refine aw_alloc (t := 47) (dst := some 8) Hi0.out Hz0.out ?_); intro w3 hw3 hk3 hz3; have Hz3 := hide hz3; clear hz3 c0 c1)
        | ((with_reducible refine aw_store (M := [.int .i64 (m : Int), .slice pa pn pc]) Try.agg47 rfl rfl rfl (by simp [Value.oneCell']) hw3 (by simp [Value.cells]) ?_); intro w4 hw4 hk4 hz4; rw [put_whole _ _ (by simp [Value.cells])] at hw4; have HK34 := hide (hk3.trans hk4 (S := fun _ => False) (fun i hi h => by omega)); have HW4 := hide hw4; clear hz4 hw3 hk3 hk4 hw4))
      refine region_tail 8 Try.mixed (by kernel_rfl) ?_
      intro w5 hk5 hz5
      simp only [List.take_succ_cons, List.take_zero, List.drop_succ_cons, List.drop_zero]
      have HK5 := hide (HK34.out.trans hk5 (fun _ _ h => h))
      have f0 : w5.cell? ⟨wr.heap.size, 0, none⟩ = some (.int .i64 m) := (hk5.blk HW4.out (fun h => h)).cell 0
      have HE5 := hide (HE.out.kept HK5.out)
      have f2 := HE5.out.cell
      rw [Hnn.out] at f2
      clear hk5 hz5
      still_step
      still_step
      still_step
      still_step
      still_step
      still_step
      still_step
      still_step
      refine wpStill_nil ?_
      refine aw_store1 (v := .int .i64 n) Hi3.out Hs3.out rfl rfl rfl rfl HE5.out.2.1 (by rw [List.length_append, ZV_length]; have := Hml.out; omega) ?_
      intro w6 hw6 hk6 hz6
      have HE6 : Hid (MkAt w6 b g cap C (mkSet l n ((bks ws).take (k + 1)))) := hide (by
        rw [HS.out]
        refine HE5.out.set Hml.out n ?_ hk6
        simpa using hw6)
      have HK6 : Hid (Kept (fun j => j = g) w w6) := hide ((HK.out.trans HK5.out (fun _ _ h => h.elim)).trans hk6 (fun _ _ h => h))
      clear hw6 hk6 hz6
      go_wp2
      go_roundw
      case rel => exact ⟨k + 1, by simp, by omega, HE6, HK6⟩
      case measure => simp [intOf]; omega
    · obtain rfl : k = ws.length := by omega
      have HE2 := HE.out
      rw [List.take_of_length_le (by rw [bks_len]; exact Nat.le_refl _)] at HE2
      have HE2 := hide HE2
      clear HE
      go_wp2
      go_ret
      exact ⟨rfl, HE2.out, HK.out⟩
theorem note_at (w : World) (b g cap : Nat) (C : List Value) (l : List Int) (h : MkAt w b g cap C l) (n : Int) (v : Value) (ws : List Wv) (hws : BsAt w v ws) (hx : ∀ k, vX v k → 0 < ws.length → k ≠ g) :
    Calls Try.prog 8 #[.pointer (some ⟨b, 0, none⟩), .int .i64 n, v] w fun e w' => e = .returned (.int .i64 (mkErr l n (bks ws))) ∧ MkAt w' b g cap C (mkNote l n (bks ws)) ∧ Kept (fun k => k = g) w w' := by
  by_cases h1 : mkNum n = true
  · have hn0 : 0 ≤ n := (of_decide_eq_true h1).1
    by_cases h2 : n < mkMost l
    · have he : mkErr l n (bks ws) = 52 := by
        unfold mkErr
        rw [if_neg (by rw [h1]; decide), if_pos ((most_any hn0).1 h2)]
      have hnt : mkNote l n (bks ws) = l := by unfold mkNote; rw [he]; rfl
      rw [he, hnt]
      have HM := hide h
      have HC := hide (isCommit_at w n true h1)
      have HMo := hide (most_at w b g cap C l h)
      obtain ⟨mo, hmo⟩ : ∃ mo, mkMost l = mo := ⟨_, rfl⟩
      rw [hmo] at HMo h2
      clear h hws h1 hmo hx he hnt
      go_enter Try.func8, Try.ntmps8
      go_wp2_with (first
        | (go_at_call 15; refine HC.out.mono ?_; rintro e w1 ⟨rfl, rfl⟩)
        | (go_at_call 11; refine HMo.out.mono ?_; rintro e w1 ⟨rfl, rfl⟩))
      go_ret
      exact ⟨rfl, HM.out, Kept.refl _ _⟩
    · have hany : ¬ l.any (fun k => decide (n < k)) = true := fun hh => h2 ((most_any hn0).2 hh)
      by_cases h3 : (bks ws).all (mkIn l.length) = true
      · have he : mkErr l n (bks ws) = 0 := by
          unfold mkErr
          rw [if_neg (by rw [h1]; decide), if_neg hany, if_pos h3]
        have hnt : mkNote l n (bks ws) = mkSet l n (bks ws) := by unfold mkNote; rw [he]; rfl
        rw [he, hnt]
        exact note_ok w b g cap C l h n v ws hws hx h1 h2 h3
      · have h3 := Bool.eq_false_iff.2 h3
        have he : mkErr l n (bks ws) = 41 := by
          unfold mkErr
          rw [if_neg (by rw [h1]; decide), if_neg hany, if_neg (by rw [h3]; decide)]
        have hnt : mkNote l n (bks ws) = l := by unfold mkNote; rw [he]; rfl
        rw [he, hnt]
        have HM := hide h
        have HC := hide (isCommit_at w n true h1)
        have HMo := hide (most_at w b g cap C l h)
        have HA := hide (hasAll_at w b g cap C l h _ ws hws false h3)
        obtain ⟨mo, hmo⟩ : ∃ mo, mkMost l = mo := ⟨_, rfl⟩
        rw [hmo] at HMo h2
        clear h hws h1 hmo hx he hnt h3 hany
        go_enter Try.func8, Try.ntmps8
        go_wp2_with (first
          | (go_at_call 15; refine HC.out.mono ?_; rintro e w1 ⟨rfl, rfl⟩)
          | (go_at_call 11; refine HMo.out.mono ?_; rintro e w1 ⟨rfl, rfl⟩)
          | (go_at_call 17; refine HA.out.mono ?_; rintro e w1 ⟨rfl, hk1⟩; have HK1 := hide hk1; clear hk1))
        go_ret
        exact ⟨rfl, HM.out.kept HK1.out, HK1.out.mono (fun _ _ h => h.elim)⟩
  · have h1 := Bool.eq_false_iff.2 h1
    have he : mkErr l n (bks ws) = 2 := by
      unfold mkErr
      rw [if_pos h1]
    have hnt : mkNote l n (bks ws) = l := by unfold mkNote; rw [he]; rfl
    rw [he, hnt]
    have HM := hide h
    have HC := hide (isCommit_at w n false h1)
    clear h hws h1 hx he hnt
    go_enter Try.func8, Try.ntmps8
    go_wp2_with (go_at_call 15; refine HC.out.mono ?_; rintro e w1 ⟨rfl, rfl⟩)
    go_ret
    exact ⟨rfl, HM.out, Kept.refl _ _⟩
end Go.Proofs.Yteijgdfgdhafnaa
