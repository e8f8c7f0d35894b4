/-
  ImageJoins, over writes.
-/
import Derived.Test.YtlpjhgcafkdhdaaIStaysW
namespace Go.Proofs.Ytlpjhgcafkdhdaa
open Go.RowKit Go.Shelf
set_option linter.unusedSimpArgs false
set_option linter.unusedVariables false
set_option maxRecDepth 100000

theorem encE_cells1 : ∀ (l : List EntB), ∀ u ∈ encE ekB evB l, u.oneCell' = true := encE_one (fun _ => rfl) (fun _ => rfl)
/-- The writes of a list are appended to a slice that is new since w0. -/
theorem append_ws {w0 w : World} {v u : Value} {l m : List Wv} (hk : Kept (fun _ => False) w0 w) (ho : w.ownsRow 0 53 2 v l.length (encE ekB evB (l.map Wv.ent))) (hn : ∀ k, v.ownBlock = some k → w0.heap.size ≤ k) (hu : WsAt w0 u m) (hu0 : ∀ n c, u = .slice none n c → c = 0) (hl : l.length + m.length ≤ 1000000) (ty : TypeId) :
    ∃ v' w', (Builtin.append_ #[36, 36] ty #[v, u]).run Try.prog w = .ok v' w' ∧ w'.ownsRow 0 53 2 v' (l ++ m).length (encE ekB evB ((l ++ m).map Wv.ent)) ∧ (∀ k, v'.ownBlock = some k → w0.heap.size ≤ k) ∧ Kept (fun _ => False) w0 w' := by
  obtain ⟨i0, hi, hz, hs, hb⟩ := info_parts Try.info53
  obtain ⟨⟨ao, cap, rfl, h2, h3⟩, _, _⟩ := hu
  rw [List.length_map] at h2 h3 ⊢
  cases ao with
  | none =>
    have hc := hu0 _ _ rfl
    subst hc
    obtain rfl : m = [] := List.eq_nil_of_length_eq_zero (by omega)
    have h := run_append_owned_none (P := Try.prog) (w := w) 0 36 ty 53 i0 2 Try.underlying36 hi v l.length _ ho
    exact ⟨_, _, h, by simpa using ho, hn, hk⟩
  | some a =>
    have hnews : ∀ j u, (encE ekB evB (m.map Wv.ent))[j]? = some u → w.cell? (a.add j) = some u := by
      intro j u hj
      by_cases h0 : 0 < m.length
      · obtain ⟨g, off, e, hc⟩ := h3 h0
        cases e
        rw [addr_add]
        exact hk.cells hc (fun h => h) j u hj
      · obtain rfl : m = [] := List.eq_nil_of_length_eq_zero (by omega)
        simp [encE] at hj
    have h1 : ∀ u ∈ encE ekB evB (m.map Wv.ent), u.oneCell' = true := by
      exact encE_cells1 _
    obtain ⟨v', w', hr, hw2, hg, _, h5⟩ := run_append_own_at (P := Try.prog) w 0 36 ty 53 i0 _ 2 32 Try.underlying36 hi hz hs hb rfl (by decide) v l.length _ ho a m.length cap _ (by rw [encE_length, List.length_map]) hnews h1 (by unfold maxLen; omega) (by omega) (Nat.zero_le _)
    refine ⟨v', w', hr, ?_, ?_, hk.trans (Kept.of_grown hg) (fun k hk' h => by have := hn k h; omega)⟩
    · rw [List.length_append, List.map_append, encE_append]
      exact hw2
    · intro k hk'
      rcases h5 with h | h
      · exact hn k (by rw [← h]; exact hk')
      · rw [h] at hk'; cases hk'; exact hk.size
theorem owns_ws {w0 w : World} {v : Value} {a b : List Wv} (hk : Kept (fun _ => False) w0 w) (ho : w.ownsRow 0 53 2 v (a ++ b).length (encE ekB evB ((a ++ b).map Wv.ent))) {ua ub : Value} (ha : WsAt w0 ua a) (hb : WsAt w0 ub b) (hl : (a ++ b).length ≤ 9223372036854775807) : WsAt w v (a ++ b) := by
  refine ⟨?_, fun x hx => ?_, hl⟩
  · rcases ownsRow_blk ho with ⟨rfl, h0, _⟩ | ⟨g, cap, C, rfl, hb, hnc, hcm, hC⟩
    · exact ⟨none, 0, by rw [List.length_map, h0], by rw [List.length_map]; omega, fun h => by rw [List.length_map] at h; omega⟩
    · refine ⟨_, cap, by rw [List.length_map], by rw [List.length_map]; exact hnc, fun _ => ⟨g, 0, rfl, ?_⟩⟩
      have h := hb.cells 0 ((a ++ b).length * 2)
      rw [List.drop_zero, List.take_append_of_le_length (by rw [encE_length, List.length_map]; omega), List.take_of_length_le (by rw [encE_length, List.length_map]; omega)] at h
      exact h
  · rcases List.mem_append.1 hx with hx | hx
    · exact (ha.2.1 x hx).kept hk
    · exact (hb.2.1 x hx).kept hk

/-- Disks that were made alike, or neither. -/
theorem same_alike {w : World} {y z : Value} {f : Int} {X : List Nat} (hy : f = 0 → DkAt w y 6 X) (hyn : f ≠ 0 → y = .pointer none) (hz : f = 0 → DkAt w z 6 X) (hzn : f ≠ 0 → z = .pointer none) :
    (∃ p, z = .pointer p) ∧ Calls Try.prog 13 #[y, z] w fun e w' => e = .returned (.bool true) ∧ Kept (fun _ => False) w w' := by
  by_cases h0 : f = 0
  · obtain ⟨p, h, _⟩ := (hz h0).ptr
    exact ⟨⟨p, h⟩, same_at w y z 6 6 X X (hy h0) (hz h0) true (by simp)⟩
  · have h1 := hyn h0
    have h2 := hzn h0
    subst h1 h2
    exact ⟨⟨none, rfl⟩, same_at w _ _ 0 0 [] [] (DkAt.nil _) (DkAt.nil _) true (by simp)⟩

set_option maxRecDepth 100000 in
set_option maxHeartbeats 8000000 in
theorem joins_at (w : World) (ua ub : Value) (a b : List Wv) (ha : WsAt w ua a) (hb : WsAt w ub b) (ha0 : ∀ n c, ua = .slice none n c → c = 0) (hb0 : ∀ n c, ub = .slice none n c → c = 0) (hla : a.length ≤ 4611686018427387903) (hlb : b.length ≤ 4611686018427387903) :
    Calls Try.prog 6 #[ua, ub] w fun e w' => e = .returned (.bool true) ∧ Kept (fun _ => False) w w' := by
  have HA := hide ha
  have HB := hide hb
  have HA0 := hide ha0
  have HB0 := hide hb0
  obtain ⟨ao, ca, hua⟩ := ha.slice
  obtain ⟨bo, cb, hub⟩ := hb.slice
  have HUA := hide hua
  have HUB := hide hub
  obtain ⟨na, hna⟩ : ∃ n, a.length = n := ⟨_, rfl⟩
  obtain ⟨nb, hnb⟩ : ∃ n, b.length = n := ⟨_, rfl⟩
  rw [hna] at hua hla
  rw [hnb] at hub hlb
  have HNA := hide hna
  have HNB := hide hnb
  have hw : IntKind.i64.wrap ((na : Int) + nb) = (na : Int) + nb := by rw [IntKind.wrap_i64]; omega
  subst hua hub
  clear ha hb ha0 hb0 hna hnb HUA HUB
  by_cases hbig : (60 : Int) < (na : Int) + nb
  · clear HA HB HA0 HB0
    go_enter Try.func6, Try.ntmps6
    go_wp2_with (go_at_call 7; refine (first_at _).mono ?_; rintro e w1 ⟨rfl, hk1⟩)
    go_ret
    exact ⟨rfl, hk1⟩
  have hs : na + nb ≤ 60 := by omega
  have HS := hide hs
  obtain ⟨ua, hua⟩ : ∃ v, v = Value.slice ao na ca := ⟨_, rfl⟩
  obtain ⟨ub, hub⟩ : ∃ v, v = Value.slice bo nb cb := ⟨_, rfl⟩
  have HUA := hide hua
  have HUB := hide hub
  go_enter Try.func6, Try.ntmps6
  go_wp2_with (first
    | (go_at_call 7; refine (first_at _).mono ?_; rintro e w1 ⟨rfl, hk1⟩; have K1 := hide hk1; clear hk1)
    | fail)
  refine (new_ok w1 6 (by decide)).mono ?_
  rintro e w2 ⟨d, rfl, hk2, hd2⟩
  obtain ⟨pd, rfl, -⟩ := hd2.ptr
  have K2 := hide (K1.out.trans hk2 (fun _ _ h => h))
  obtain ⟨D, hD⟩ : ∃ D, D = List.replicate (64 * 6) 0 := ⟨_, rfl⟩
  rw [← hD] at hd2
  have D2 := hide hd2
  clear hk2 hd2 hD K1 hw hbig hs
  go_wp2_with fail
  refine (with_at w2 _ 6 D D2.out (by decide) _ a (HA.out.kept K2.out)).mono ?_
  rintro e w3 ⟨x, rfl, hwi, hk3⟩
  have K3 := hide (K2.out.trans hk3 (fun _ _ h => h))
  have D3 := hide (D2.out.kept hk3)
  clear hk3 K2 D2
  have happ := withE_append 6 (a.map Wv.wr) (b.map Wv.wr)
  have happB := withB_append D (a.map Wv.wr) (b.map Wv.wr)
  rw [← List.map_append] at happ happB
  by_cases he : withE 6 (a.map Wv.wr) = 0
  · rw [if_pos he] at happ
    have hx := hwi.1 he
    obtain ⟨px, rfl, -⟩ := hx.ptr
    obtain ⟨X, hX⟩ : ∃ X, X = withB D (a.map Wv.wr) := ⟨_, rfl⟩
    rw [← hX] at hx happB
    have X3 := hide hx
    rw [he]
    obtain ⟨f, hf⟩ : ∃ f, f = withE 6 (b.map Wv.wr) := ⟨_, rfl⟩
    have HApp := hide happ
    have HAppB := hide happB
    clear hwi hx hX he happ happB
    go_wp2_with fail
    refine (with_at w3 _ 6 X X3.out (by decide) _ b (HB.out.kept K3.out)).mono ?_
    rintro e w4 ⟨y, rfl, hwy, hk4⟩
    have K4 := hide (K3.out.trans hk4 (fun _ _ h => h))
    have D4 := hide (D3.out.kept hk4)
    have WY := hide hwy
    rw [← hf]
    have HF := hide hf
    clear hwy hk4 K3 D3 X3 hf
    obtain ⟨py, rfl⟩ : ∃ p, y = .pointer p := by
      by_cases h0 : f = 0
      · obtain ⟨p, h, _⟩ := (WY.out.1 (by rw [← HF.out]; exact h0)).ptr
        exact ⟨p, h⟩
      · exact ⟨none, WY.out.2 (by rw [← HF.out]; exact h0)⟩
    go_wp2_with (first | (with_reducible refine stop_bs 36 ?_) | fail)
    refine hide ?_
    obtain ⟨i0, hi0, hz0, hs0, hb0⟩ := info_parts Try.info53
    refine wpList_run rfl (r_bs0n Try.underlying36 hi0) ?_
    have hb1 := Blk.new w4 [] 53
    have hk1 : Kept (fun _ => False) w4 (w4.alloc (.cells ([] : List Value).toArray 53)) := Kept.alloc _ _ _
    rw [show (#[] : Array Value) = ([] : List Value).toArray from rfl]
    generalize w4.alloc (.cells ([] : List Value).toArray 53) = w5 at hb1 hk1
    obtain ⟨v1, w6, hr1, ho1, hn1, hk6⟩ := append_ws (w0 := w4) (l := []) hk1 (ownsRow_of (xs := []) (C := []) hb1 rfl (Nat.le_refl _) (Nat.zero_le _) rfl) (fun k hk => by simp [Value.ownBlock] at hk; omega) (HA.out.kept K4.out) HA0.out (by have := HS.out; have := HNA.out; simp; omega) 36
    rw [List.nil_append] at ho1
    obtain ⟨v2, w7, hr2, ho2, hn2, hk7⟩ := append_ws (w0 := w4) (l := a) hk6 ho1 hn1 (HB.out.kept K4.out) HB0.out (by have := HS.out; have := HNA.out; have := HNB.out; omega) 36
    have WSab := hide (owns_ws hk7 ho2 (HA.out.kept K4.out) (HB.out.kept K4.out) (by have := HS.out; have := HNA.out; have := HNB.out; rw [List.length_append]; omega))
    have K47 := hide hk7
    have K7 := hide (K4.out.trans hk7 (fun _ _ h => h))
    have D7 := hide (D4.out.kept hk7)
    have HR1 := hide hr1
    have HR2 := hide hr2
    obtain ⟨nab, hnab⟩ : ∃ n, (a ++ b).length = n := ⟨_, rfl⟩
    rw [hnab] at ho2
    rw [HNA.out] at ho1
    obtain ⟨so1, sc1, rfl⟩ := ownsRow_slice ho1
    obtain ⟨so2, sc2, rfl⟩ := ownsRow_slice ho2
    clear hnab hi0 hz0 hs0 hb0 hb1 hk1 hr1 ho1 hn1 hk6 hr2 ho2 hn2 hk7 K4 D4
    try simp only [put_lit, put_none, List.set_cons_succ, List.set_cons_zero]
    go_wp2_with (first | (with_reducible refine stop_append2 36 36 ?_) | fail)
    refine hide ?_
    refine wpList_run rfl (r_app rfl rfl HR1.out) ?_
    try simp only [put_lit, put_none, List.set_cons_succ, List.set_cons_zero]
    go_wp2_with (first | (with_reducible refine stop_append2 36 36 ?_) | fail)
    refine hide ?_
    refine wpList_run rfl (r_app rfl rfl HR2.out) ?_
    try simp only [put_lit, put_none, List.set_cons_succ, List.set_cons_zero]
    go_wp2_with fail
    refine (with_at w7 _ 6 D D7.out (by decide) _ (a ++ b) WSab.out).mono ?_
    rintro e w8 ⟨z, rfl, hwz, hk8⟩
    have K8 := hide (K7.out.trans hk8 (fun _ _ h => h))
    rw [HApp.out, ← HF.out]
    have hzz : f = 0 → withE 6 ((a ++ b).map Wv.wr) = 0 := fun h => HApp.out.trans (HF.out.symm.trans h)
    have hzn : f ≠ 0 → withE 6 ((a ++ b).map Wv.wr) ≠ 0 := fun h h2 => h (HF.out.trans (HApp.out.symm.trans h2))
    have hbz : f = 0 → withE 6 (b.map Wv.wr) = 0 := fun h => HF.out.symm.trans h
    have hbn : f ≠ 0 → withE 6 (b.map Wv.wr) ≠ 0 := fun h h2 => h (HF.out.trans h2)
    have hsame := same_alike (w := w8) (y := .pointer py) (z := z) (f := f) (X := withB X (b.map Wv.wr)) (fun h => ((WY.out.1 (hbz h)).kept K47.out).kept hk8) (fun h => WY.out.2 (hbn h)) (fun h => HAppB.out ▸ hwz.1 (hzz h)) (fun h => hwz.2 (hzn h))
    obtain ⟨⟨pz, rfl⟩, hcall⟩ := hsame
    have HSm := hide hcall
    clear hwz hk8 hzz hzn hbz hbn hcall
    have hff : (f == f) = true := by simp
    go_wp2_with (go_at_call 13; refine HSm.out.mono ?_; rintro e w9 ⟨rfl, hk9⟩)
    go_ret
    exact ⟨rfl, K8.out.trans hk9 (fun _ _ h => h)⟩
  · rw [if_neg he] at happ
    have hx := hwi.2 he
    subst hx
    obtain ⟨ee, hee⟩ : ∃ ee, withE 6 (a.map Wv.wr) = ee := ⟨_, rfl⟩
    rw [hee] at he happ ⊢
    have HApp := hide happ
    have he2 : (ee != 0) = true := by simpa using he
    have hee2 : (ee == ee) = true := by simp
    clear hwi happ happB hee
    go_wp2_with fail
    refine (with_nil w3 _).mono ?_
    rintro e w4 ⟨rfl, rfl⟩
    go_wp2_with (first | (with_reducible refine stop_bs 36 ?_) | fail)
    refine hide ?_
    obtain ⟨i0, hi0, hz0, hs0, hb0⟩ := info_parts Try.info53
    refine wpList_run rfl (r_bs0n Try.underlying36 hi0) ?_
    have hb1 := Blk.new w3 [] 53
    have hk1 : Kept (fun _ => False) w3 (w3.alloc (.cells ([] : List Value).toArray 53)) := Kept.alloc _ _ _
    rw [show (#[] : Array Value) = ([] : List Value).toArray from rfl]
    generalize w3.alloc (.cells ([] : List Value).toArray 53) = w5 at hb1 hk1
    obtain ⟨v1, w6, hr1, ho1, hn1, hk6⟩ := append_ws (w0 := w3) (l := []) hk1 (ownsRow_of (xs := []) (C := []) hb1 rfl (Nat.le_refl _) (Nat.zero_le _) rfl) (fun k hk => by simp [Value.ownBlock] at hk; omega) (HA.out.kept K3.out) HA0.out (by have := HS.out; have := HNA.out; simp; omega) 36
    rw [List.nil_append] at ho1
    obtain ⟨v2, w7, hr2, ho2, hn2, hk7⟩ := append_ws (w0 := w3) (l := a) hk6 ho1 hn1 (HB.out.kept K3.out) HB0.out (by have := HS.out; have := HNA.out; have := HNB.out; omega) 36
    have WSab := hide (owns_ws hk7 ho2 (HA.out.kept K3.out) (HB.out.kept K3.out) (by have := HS.out; have := HNA.out; have := HNB.out; rw [List.length_append]; omega))
    have K37 := hide hk7
    have K7 := hide (K3.out.trans hk7 (fun _ _ h => h))
    have D7 := hide (D3.out.kept hk7)
    have HR1 := hide hr1
    have HR2 := hide hr2
    obtain ⟨nab, hnab⟩ : ∃ n, (a ++ b).length = n := ⟨_, rfl⟩
    rw [hnab] at ho2
    rw [HNA.out] at ho1
    obtain ⟨so1, sc1, rfl⟩ := ownsRow_slice ho1
    obtain ⟨so2, sc2, rfl⟩ := ownsRow_slice ho2
    clear hnab hi0 hz0 hs0 hb0 hb1 hk1 hr1 ho1 hn1 hk6 hr2 ho2 hn2 hk7 K3 D3
    try simp only [put_lit, put_none, List.set_cons_succ, List.set_cons_zero]
    go_wp2_with (first | (with_reducible refine stop_append2 36 36 ?_) | fail)
    refine hide ?_
    refine wpList_run rfl (r_app rfl rfl HR1.out) ?_
    try simp only [put_lit, put_none, List.set_cons_succ, List.set_cons_zero]
    go_wp2_with (first | (with_reducible refine stop_append2 36 36 ?_) | fail)
    refine hide ?_
    refine wpList_run rfl (r_app rfl rfl HR2.out) ?_
    try simp only [put_lit, put_none, List.set_cons_succ, List.set_cons_zero]
    go_wp2_with fail
    refine (with_at w7 _ 6 D D7.out (by decide) _ (a ++ b) WSab.out).mono ?_
    rintro e w8 ⟨z, rfl, hwz, hk8⟩
    have hz := hwz.2 (by rw [HApp.out]; exact he)
    subst hz
    rw [HApp.out]
    have K8 := hide (K7.out.trans hk8 (fun _ _ h => h))
    clear hwz hk8
    go_wp2
    go_ret
    exact ⟨rfl, K8.out⟩
end Go.Proofs.Ytlpjhgcafkdhdaa
