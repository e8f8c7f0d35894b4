/-
  The document's own answers: New, Note.
-/
import Derived.Test.YteijgdfgdhafnaaMkNote
namespace Go.Proofs.Yteijgdfgdhafnaa
open Go.RowKit Go.Shelf
set_option linter.unusedSimpArgs false
set_option linter.unusedVariables false
set_option maxRecDepth 100000

theorem rnew_no (w : World) (b n : Int) (h : mkNew b n = false) : Calls Try.prog 7 #[.int .i64 b, .int .i64 n] w fun e w' => e = .returned (.tuple #[.slice none 0 0, .int .i64 2]) ∧ w = w' := by
  by_cases h1 : b < 1
  · clear h
    go_enter Try.func7, Try.ntmps7
    go_wp2
    go_ret2
    exact ⟨rfl, rfl⟩
  · by_cases h2 : 64 < b
    · clear h
      go_enter Try.func7, Try.ntmps7
      go_wp2
      go_ret2
      exact ⟨rfl, rfl⟩
    · have h3 : mkNum n = false := by
        unfold mkNew at h
        rw [decide_eq_true (by omega), Bool.true_and] at h
        exact h
      clear h
      by_cases h4 : n < 0
      · clear h3
        go_enter Try.func7, Try.ntmps7
        go_wp2
        go_ret2
        exact ⟨rfl, rfl⟩
      · have h5 : 1099511627776 < n := by
          have := of_decide_eq_false h3
          omega
        clear h3
        go_enter Try.func7, Try.ntmps7
        go_wp2
        go_ret2
        exact ⟨rfl, rfl⟩
set_option maxHeartbeats 1000000 in
theorem rnew_ok (w : World) (k : Nat) (n : Int) (hk : 1 ≤ k ∧ k ≤ 64) (hn : mkNum n = true) : Calls Try.prog 7 #[.int .i64 k, .int .i64 n] w fun e w' => ∃ v, e = .returned (.tuple #[v, .int .i64 0]) ∧ GathZ w w' v (List.replicate k n) := by
  have h1 : ¬ ((k : Int) < 1) := by omega
  have h2 : ¬ (64 < (k : Int)) := by omega
  have hn2 : 0 ≤ n ∧ n ≤ 1099511627776 := of_decide_eq_true hn
  have h3 : ¬ (n < 0) := by omega
  have h4 : ¬ ((1099511627776 : Int) < n) := by omega
  have Hk := hide hk
  obtain ⟨i3, hi3, hz3, hs3, hb3⟩ := info_parts Try.info3
  have Hi3 := hide hi3
  have Hz3 := hide hz3
  have Hs3 := hide hs3
  have Hb3 := hide hb3
  clear hk hn hi3 hz3 hs3 hb3 hn2
  go_enter Try.func7, Try.ntmps7
  go_wp2
  go_loopw [6, 7] (fun o i wr => ∃ j : Nat, i = .int .i64 j ∧ j ≤ k ∧ Hid (GathZ w wr o (List.replicate j n))) (fun _ i _ => k - (intOf i).toNat)
  case atStart => exact ⟨0, rfl, Nat.zero_le _, hide (GathZ.nil _ _ (Kept.refl _ _))⟩
  case round =>
    obtain ⟨j, rfl, hj, HO⟩ := hrel
    have HO1 := HO.out.1
    rw [List.length_replicate] at HO1
    obtain ⟨oa, oc, rfl⟩ := ownsRow_slice HO1
    have HO1 := hide HO1
    by_cases hlt : j < k
    · go_wp2_with (with_reducible refine stop_bs1 28 ?_)
      refine hide ?_
      refine aw_push (v := .int .i64 n) (o := .slice oa j oc) Try.underlying28 Hi3.out Hz3.out Hs3.out Hb3.out rfl (by decide) rfl rfl rfl rfl rfl HO1.out (by have := Hk.out; omega) ?_
      intro o' w' q1 q2 q3
      have HO' := hide (HO.out.push (x := n) (by rw [List.length_replicate]; exact q1) q2 q3)
      rw [← List.replicate_succ'] at HO'
      obtain ⟨oa', oc', rfl⟩ := ownsRow_slice q1
      clear q1 q2 q3 h3 h4
      try simp only [put_lit, put_none, List.set_cons_succ, List.set_cons_zero]
      go_wp2
      go_roundw
      case rel => exact ⟨j + 1, by simp, by omega, HO'⟩
      case measure => simp [intOf]; omega
    · obtain rfl : j = k := by omega
      go_wp2
      go_ret2
      exact ⟨_, rfl, HO.out⟩
/-- An own slice, one number set. -/
theorem GathZ.set {W wr w' : World} {g cap : Nat} {ys : List Int} {C : List Value} (h : GathZ W wr (.slice (some ⟨g, 0, none⟩) ys.length cap) ys) (hb : Blk wr g (ZV ys ++ C) 3) (hnc : ys.length ≤ cap) (hcm : cap ≤ maxLen) (hC : C.length = (cap - ys.length) * 1) {k : Nat} (hk : k < ys.length) (n : Int)
    (hw : Blk w' g ((ZV ys ++ C).set k (.int .i64 n)) 3) (hkp : Kept (fun j => j = g) wr w') : GathZ W w' (.slice (some ⟨g, 0, none⟩) (ys.set k n).length cap) (ys.set k n) := by
  rw [ZV_set hk] at hw
  refine ⟨ownsRow_of hw (by rw [ZV_length, Nat.mul_one]) (by rw [List.length_set]; exact hnc) hcm (by rw [List.length_set]; exact hC), fun b hb => ?_, h.2.2.trans hkp (fun i hi h' => ?_)⟩
  · exact h.2.1 b hb
  · have := h.2.1 g rfl
    omega
theorem any_take_succ {p : Int → Bool} {l : List Int} {k : Nat} (h : k < l.length) (h0 : (l.take k).any p = false) : (l.take (k + 1)).any p = p l[k] := by
  rw [List.take_succ_eq_append_getElem h, List.any_append, h0]
  simp
theorem any_true {p : Int → Bool} {l : List Int} {k : Nat} (h : k < l.length) (hp : p l[k] = true) : l.any p = true := List.any_eq_true.2 ⟨_, List.getElem_mem h, hp⟩
set_option maxHeartbeats 2000000 in
theorem rnote_at (w : World) (ad : Addr) (m c : Nat) (l : List Int) (hs : SrcV w (.slice (some ad) m c) (ZV l)) (hl64 : 1 ≤ l.length ∧ l.length ≤ 64) (n : Int) (v : Value) (ws : List Wv) (hws : BsAt w v ws) :
    Calls Try.prog 13 #[.slice (some ad) m c, .int .i64 n, v] w fun e w' => ∃ v', e = .returned (.tuple #[v', .int .i64 (mkErr l n (bks ws))]) ∧ (mkErr l n (bks ws) = 0 → GathZ w w' v' (mkNote l n (bks ws))) ∧ (¬ mkErr l n (bks ws) = 0 → v' = .slice (some ad) m c ∧ mkNote l n (bks ws) = l) ∧ Kept (fun _ => False) w w' := by
  obtain ⟨va, vc, rfl⟩ := hws.slice
  have hwl := hws.2
  have HL := hide hws
  have HSr := hide (fun (w' : World) (hk : Kept (fun _ => False) w w') => hs.kept hk (fun _ _ h => h))
  have hml : m = l.length := by
    obtain ⟨_, _, e, _⟩ := hs
    simp only [Value.slice.injEq] at e
    rw [e.2.1, ZV_length]
  have Hm := hide hml
  have hm64 : 1 ≤ m ∧ m ≤ 64 := by omega
  have Hm64 := hide hm64
  have HG := hide (fun (w' : World) (hk : Kept (fun _ => False) w w') (k : Nat) (hk2 : k < l.length) => srcz (hs.kept hk (fun _ _ h => h)) hk2)
  clear hs hws hml hl64 hm64
  by_cases h1 : mkNum n = true
  · have hn2 : 0 ≤ n ∧ n ≤ 1099511627776 := of_decide_eq_true h1
    have h3 : ¬ (n < 0) := by omega
    have h4 : ¬ ((1099511627776 : Int) < n) := by omega
    have HN := hide h1
    obtain ⟨i0, hi0, hz0, hs0, hb0⟩ := info_parts Try.info47
    have Hi0 := hide hi0
    have Hz0 := hide hz0
    obtain ⟨i3, hi3, hz3, hs3, hb3⟩ := info_parts Try.info3
    have Hi3 := hide hi3
    have Hz3 := hide hz3
    have Hs3 := hide hs3
    have Hb3 := hide hb3
    clear h1 hn2 hi0 hz0 hs0 hb0 hi3 hz3 hs3 hb3
    go_enter Try.func13, Try.ntmps13
    go_wp2
    go_loopw [22] (fun i wr => ∃ k : Nat, i = .int .i64 k ∧ k ≤ m ∧ Hid ((l.take k).any (fun x => decide (n < x)) = false) ∧ w = wr) (fun i _ => m - (intOf i).toNat)
    case atStart => exact ⟨0, rfl, Nat.zero_le _, hide rfl, rfl⟩
    case round =>
      obtain ⟨k, rfl, hk, HA, rfl⟩ := hrel
      have hm64 : m ≤ 64 := Hm64.out.2
      by_cases hlt : k < m
      · have hkl : k < l.length := by rw [← Hm.out]; exact hlt
        obtain ⟨gg, gf, hgg, c0⟩ := HG.out w (Kept.refl _ _) k hkl
        cases hgg
        have HS := hide (any_take_succ hkl HA.out)
        have HT := hide (any_true (p := fun x => decide (n < x)) hkl)
        obtain ⟨x, hx⟩ : ∃ x, l[k] = x := ⟨_, rfl⟩
        rw [hx] at c0 HS HT
        clear hx hkl HA
        by_cases hnx : n < x
        · have he : Hid (mkErr l n (bks ws) = 52) := hide (by
            unfold mkErr
            rw [if_neg (by rw [HN.out]; decide), if_pos (HT.out (decide_eq_true hnx))])
          have hnt : Hid (mkNote l n (bks ws) = l) := hide (by unfold mkNote; rw [he.out]; rfl)
          clear HS HT
          go_wp2
          go_ret2
          exact ⟨_, by rw [he.out]; rfl, fun h => by rw [he.out] at h; exact absurd h (by decide), fun _ => ⟨rfl, hnt.out⟩, Kept.refl _ _⟩
        · have HS2 := HS.out
          rw [decide_eq_false hnx] at HS2
          have HS2 := hide HS2
          clear HS HT
          go_wp2
          go_roundw
          case rel => exact ⟨k + 1, by simp, by omega, HS2, trivial⟩
          case measure => simp [intOf]; omega
      · obtain rfl : k = m := by omega
        have HA2 := HA.out
        rw [List.take_of_length_le (by rw [Hm.out]; exact Nat.le_refl _)] at HA2
        have HA2 := hide HA2
        clear HA
        obtain ⟨v', w2, hr, hg⟩ := app0 w ad k c l (by have := Hm64.out; have := Hm.out; omega) (HSr.out w (Kept.refl _ _))
        go_wp2_with (with_reducible refine stop_bs0 28 ?_)
        refine hide ?_
        refine wpList_run rfl (r_bs0n Try.underlying28 Hi3.out) ?_
        have HR := hide hr
        have HGz := hide hg
        clear hr hg
        try simp only [put_lit, put_none, List.set_cons_succ, List.set_cons_zero]
        generalize w.alloc (.cells #[] 3) = w1 at HR
        go_wp2_with (with_reducible refine stop_append2 28 28 ?_)
        refine hide ?_
        refine wpList_run rfl (r_app rfl rfl HR.out) ?_
        try simp only [put_lit, put_none, List.set_cons_succ, List.set_cons_zero]
        rcases ownsRow_blk HGz.out.1 with ⟨_, h0, _⟩ | ⟨g', cap', C', rfl, hb', hnc, hcm, hC⟩
        · have := Hm64.out; have := Hm.out; omega
        have HB' := hide hb'
        have HCap := hide (And.intro hnc (And.intro hcm hC))
        have Hg' := hide (HGz.out.2.1 g' rfl)
        have HK2 := hide HGz.out.2.2
        rw [← Hm.out]
        clear hb' hnc hcm hC HR
        go_wp2
        go_loopw [36] (fun i wr => ∃ j : Nat, i = .int .i64 j ∧ j ≤ ws.length ∧ Hid (((bks ws).take j).all (mkIn l.length) = true) ∧ Hid (GathZ w wr (.slice (some ⟨g', 0, none⟩) k cap') (mkSet l n ((bks ws).take j)) ∧ Blk wr g' (ZV (mkSet l n ((bks ws).take j)) ++ C') 3)) (fun i _ => ws.length - (intOf i).toNat)
        case atStart => exact ⟨0, rfl, Nat.zero_le _, hide rfl, hide ⟨by have := HGz.out; rw [← Hm.out] at this; exact this, HB'.out⟩⟩
        case round =>
          obtain ⟨j, rfl, hj, HE, HO⟩ := hrel
          have HK := hide HO.out.1.2.2
          by_cases hlt : j < ws.length
          · obtain ⟨ga, off, rfl, c0, c1⟩ := (HL.out.kept HK.out).get hlt
            have hlb : j < (bks ws).length := by rw [bks_len]; exact hlt
            have HSs := hide (set_take_succ (l := l) (n := n) hlb)
            have HS := hide (all_take_succ (p := mkIn l.length) hlb)
            have HF := hide (all_false (p := mkIn l.length) hlb)
            rw [bks_get hlt, HE.out, Bool.true_and] at HS
            rw [bks_get hlt] at HF HSs
            obtain ⟨p, hp⟩ : ∃ p, p = ws[j].blk := ⟨_, rfl⟩
            obtain ⟨⟨pa, pn, pc⟩, hs⟩ : ∃ s, s = ws[j].s := ⟨_, rfl⟩
            rw [← hp] at c0 HS HF HSs
            rw [← hs] at c1
            simp only at c1
            clear hp hs hlb HE
            by_cases hp0 : p < 0
            · have hq : mkIn l.length p = false := decide_eq_false (by omega)
              have he : Hid (mkErr l n (bks ws) = 41) := hide (by
                unfold mkErr
                rw [if_neg (by rw [HN.out]; decide), if_neg (by rw [HA2.out]; decide), if_neg (by rw [HF.out hq]; decide)])
              have hnt : Hid (mkNote l n (bks ws) = l) := hide (by unfold mkNote; rw [he.out]; rfl)
              clear HS HF HSs hq
              go_wp2_with (first
                | ((with_reducible refine aw_alloc (t := 47) (dst := some 12) Hi0.out Hz0.out ?_); intro w3 hw3 hk3 hz3; have Hz3 := hide hz3; clear hz3 c0 c1)
                | ((with_reducible refine aw_store (M := [.int .i64 p, .slice pa pn pc]) Try.agg47 rfl rfl rfl (by simp [Value.oneCell']) hw3 (by simp [Value.cells]) ?_); intro w4 hw4 hk4 hz4; rw [put_whole _ _ (by simp [Value.cells])] at hw4; have HK34 := hide (hk3.trans hk4 (S := fun _ => False) (fun i hi h => by omega)); have e0 : w4.cell? ⟨wr.heap.size, 0, none⟩ = some (.int .i64 p) := hw4.cell 0; clear hz4 hw3 hk3 hk4 hw4))
              go_ret2
              exact ⟨_, by rw [he.out]; rfl, fun h => by rw [he.out] at h; exact absurd h (by decide), fun _ => ⟨rfl, hnt.out⟩, HK.out.trans HK34.out (fun _ _ h => h)⟩
            · by_cases hpk : p < (k : Int)
              · obtain ⟨q, rfl⟩ : ∃ q : Nat, p = q := ⟨p.toNat, by omega⟩
                have hq : mkIn l.length (q : Int) = true := decide_eq_true (by have := Hm.out; omega)
                rw [hq] at HS
                rw [Int.toNat_natCast] at HSs
                obtain ⟨lc, hlc⟩ : ∃ lc, mkSet l n ((bks ws).take j) = lc := ⟨_, rfl⟩
                have hlcl : lc.length = k := by rw [← hlc, mkSet_length]; exact Hm.out.symm
                have Hlcl := hide hlcl
                rw [hlc] at HO HSs
                have hqI : (q : Int) < (k : Int) := hpk
                clear hq hlc hlcl HF
                go_wp2_with (first
                  | ((with_reducible refine aw_alloc (t := 47) (dst := some 12) Hi0.out Hz0.out ?_); intro w3 hw3 hk3 hz3; have Hz3 := hide hz3; clear hz3 c0 c1)
                  | ((with_reducible refine aw_store (M := [.int .i64 (q : Int), .slice pa pn pc]) Try.agg47 rfl rfl rfl (by simp [Value.oneCell']) hw3 (by simp [Value.cells]) ?_); intro w4 hw4 hk4 hz4; rw [put_whole _ _ (by simp [Value.cells])] at hw4; have HK34 := hide (hk3.trans hk4 (S := fun _ => False) (fun i hi h => by omega)); have e0 : w4.cell? ⟨wr.heap.size, 0, none⟩ = some (.int .i64 (q : Int)) := hw4.cell 0; have HO4 := hide (And.intro (HO.out.1.kept HK34.out) (HK34.out.blk HO.out.2 (fun h => h))); clear hz4 hw3 hk3 hk4 hw4)
                  | (with_reducible refine stop_store 3 ?_))
                refine hide ?_
                refine aw_store1 (v := .int .i64 n) Hi3.out Hs3.out rfl rfl rfl rfl HO4.out.2 (by rw [List.length_append, ZV_length, Hlcl.out]; omega) ?_
                intro w6 hw6 hk6 hz6
                have hw6' : Blk w6 g' ((ZV lc ++ C').set q (.int .i64 n)) 3 := by simpa using hw6
                have HO6 : Hid (GathZ w w6 (.slice (some ⟨g', 0, none⟩) k cap') (mkSet l n ((bks ws).take (j + 1))) ∧ Blk w6 g' (ZV (mkSet l n ((bks ws).take (j + 1))) ++ C') 3) := hide (by
                  rw [HSs.out]
                  have h5 : GathZ w w4 (.slice (some ⟨g', 0, none⟩) lc.length cap') lc := by rw [Hlcl.out]; exact HO4.out.1
                  have h6 := h5.set HO4.out.2 (by rw [Hlcl.out]; have := HCap.out.1; have := Hm.out; omega) HCap.out.2.1 (by rw [Hlcl.out, Hm.out]; exact HCap.out.2.2) (by rw [Hlcl.out]; omega) n hw6' hk6
                  rw [List.length_set, Hlcl.out] at h6
                  refine ⟨h6, ?_⟩
                  rw [← ZV_set (by rw [Hlcl.out]; omega)]
                  exact hw6')
                clear hw6 hk6 hz6 hw6'
                try simp only [put_lit, put_none, List.set_cons_succ, List.set_cons_zero]
                go_wp2
                go_roundw
                case rel => exact ⟨j + 1, by simp, by omega, HS, HO6⟩
                case measure => simp [intOf]; omega
              · have hq : mkIn l.length p = false := decide_eq_false (by have := Hm.out; omega)
                have he : Hid (mkErr l n (bks ws) = 41) := hide (by
                  unfold mkErr
                  rw [if_neg (by rw [HN.out]; decide), if_neg (by rw [HA2.out]; decide), if_neg (by rw [HF.out hq]; decide)])
                have hnt : Hid (mkNote l n (bks ws) = l) := hide (by unfold mkNote; rw [he.out]; rfl)
                clear HS HF HSs hq
                go_wp2_with (first
                  | ((with_reducible refine aw_alloc (t := 47) (dst := some 12) Hi0.out Hz0.out ?_); intro w3 hw3 hk3 hz3; have Hz3 := hide hz3; clear hz3 c0 c1)
                  | ((with_reducible refine aw_store (M := [.int .i64 p, .slice pa pn pc]) Try.agg47 rfl rfl rfl (by simp [Value.oneCell']) hw3 (by simp [Value.cells]) ?_); intro w4 hw4 hk4 hz4; rw [put_whole _ _ (by simp [Value.cells])] at hw4; have HK34 := hide (hk3.trans hk4 (S := fun _ => False) (fun i hi h => by omega)); have e0 : w4.cell? ⟨wr.heap.size, 0, none⟩ = some (.int .i64 p) := hw4.cell 0; clear hz4 hw3 hk3 hk4 hw4))
                go_ret2
                exact ⟨_, by rw [he.out]; rfl, fun h => by rw [he.out] at h; exact absurd h (by decide), fun _ => ⟨rfl, hnt.out⟩, HK.out.trans HK34.out (fun _ _ h => h)⟩
          · obtain rfl : j = ws.length := by omega
            have htk : (bks ws).take ws.length = bks ws := List.take_of_length_le (by rw [bks_len]; exact Nat.le_refl _)
            have he : Hid (mkErr l n (bks ws) = 0) := hide (by
              unfold mkErr
              rw [if_neg (by rw [HN.out]; decide), if_neg (by rw [HA2.out]; decide), if_pos (by rw [← htk]; exact HE.out)])
            have hnt : Hid (mkNote l n (bks ws) = mkSet l n (bks ws)) := hide (by unfold mkNote; rw [he.out]; rfl)
            have HO2 := HO.out.1
            rw [htk] at HO2
            have HO2 := hide HO2
            clear htk
            go_wp2
            go_ret2
            exact ⟨_, by rw [he.out]; rfl, fun _ => by rw [hnt.out]; exact HO2.out, fun h => absurd he.out h, HK.out⟩
  · have h1 := Bool.eq_false_iff.2 h1
    have he : mkErr l n (bks ws) = 2 := by
      unfold mkErr
      rw [if_pos h1]
    have hnt : mkNote l n (bks ws) = l := by unfold mkNote; rw [he]; rfl
    have HEr := hide he
    have HNt := hide hnt
    clear he hnt
    have hn2 := of_decide_eq_false h1
    clear h1
    by_cases h3 : n < 0
    · clear hn2
      go_enter Try.func13, Try.ntmps13
      go_wp2
      go_ret2
      exact ⟨_, by rw [HEr.out]; rfl, fun h => by rw [HEr.out] at h; exact absurd h (by decide), fun _ => ⟨rfl, HNt.out⟩, Kept.refl _ _⟩
    · have h4 : (1099511627776 : Int) < n := by omega
      clear hn2
      go_enter Try.func13, Try.ntmps13
      go_wp2
      go_ret2
      exact ⟨_, by rw [HEr.out]; rfl, fun h => by rw [HEr.out] at h; exact absurd h (by decide), fun _ => ⟨rfl, HNt.out⟩, Kept.refl _ _⟩
end Go.Proofs.Yteijgdfgdhafnaa
