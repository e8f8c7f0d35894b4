/-
  (*Dev).settle: of what waits just that stays of which the function that is handed in says so; nothing waits any more.
-/
import Derived.Test.YtnlcmgdeohbmoaaJ20
namespace Go.Proofs.Ytnlcmgdeohbmoaa.D
open Go.RowKit
set_option linter.unusedSimpArgs false
set_option linter.unusedVariables false
set_option maxRecDepth 100000

set_option maxHeartbeats 2000000 in
theorem settle_30 (w : World) (b bs n : Nat) (wv c l o : Value) (st : List Value) (ws : List (Nat × List Value)) (kf : Nat → Bool) (kb : Nat) (hn : n ≤ 4096)
    (hb : Blk w b [.slice (some ⟨bs, 0, none⟩) n n, wv, c, l, o] 72) (hs : Blk w bs st 129) (how : w.ownsRow 0 131 65 wv ws.length (flat ws))
    (hl : st.length = 64 * n) (hB : ∀ v ∈ st, isByte v) (hw : ∀ p ∈ ws, okWait n p)
    (hkeep : ∀ (i : Nat) (W : World), i < ws.length → Kept (fun k => k = bs) w W → Calls Try.prog 47 #[.int .i64 i, .pointer (some ⟨kb, 0, none⟩)] W fun e w' => e = .returned (.bool (kf i)) ∧ W = w') :
    Calls Try.prog 46 #[.pointer (some ⟨b, 0, none⟩), .func (.func 47) #[] #[.pointer (some ⟨kb, 0, none⟩)]] w fun e w' => e = .returned (.tuple #[]) ∧ Kept (fun k => k = b ∨ k = bs) w w' ∧
      Blk w' b [.slice (some ⟨bs, 0, none⟩) n n, .slice none 0 0, c, l, o] 72 ∧ Blk w' bs (laidTo kf ws st ws.length) 129 := by
  have hok := laidTo_ok kf n ws st hw hl hB
  have hfl := flat_length n ws hw
  have Hok := hide hok
  have Hfl := hide hfl
  have Hw := hide hw
  have Hkeep := hide hkeep
  have hbbs : b ≠ bs := hb.ne hs (by decide)
  have Hne := hide hbbs
  obtain ⟨i72, hi72, hz72, hs72, hb72⟩ := info_parts Try.info131
  have Hi72 := hide hi72
  have Hz72 := hide hz72
  clear hi72 hz72 hs72 hb72 hok hfl hw hkeep hl hB hbbs
  have c0 : w.cell? ⟨b, 0, none⟩ = some (.slice (some ⟨bs, 0, none⟩) n n) := hb.cell 0
  have c1 : w.cell? ⟨b, 1, none⟩ = some wv := hb.cell 1
  have f1 : w.frozen? ⟨b, 1, none⟩ = false := hb.frozen 1
  rcases how.2 with ⟨rfl, hz⟩ | ⟨g, cap, cur, rfl, _, hg, hnc, hcm, hcs, htk⟩
  · have Hz := hide hz
    go_enter Try.func46, Try.ntmps46
    have hws : ws = [] := List.eq_nil_of_length_eq_zero hz
    subst hws
    go_wp2
    refine wp_loop_rounds 1 ?_
    rw [rounds_succ]
    go_wp2
    go_end0
    refine ⟨rfl, ?_, ?_, ?_⟩
    · exact (Kept.setCell (S := fun k => k = b) w ⟨b, 1, none⟩ _ rfl).mono (fun i _ h => Or.inl h)
    · exact hb.setCell 1 _
    · exact (Kept.setCell (S := fun k => k = b) w ⟨b, 1, none⟩ _ rfl).blk hs (fun h => Hne.out h.symm)
  · have hgb : Blk w g cur.toList 131 := by unfold Blk; simpa using hg
    have hcl : cur.toList.length = cap * 65 := by simpa using hcs
    have Hcl := hide hcl
    have Htk := hide htk
    have hgs : g ≠ bs := hgb.ne hs (by decide)
    have Hgs := hide hgs
    clear hg hcs htk hgs hcl
    have hmx : ws.length ≤ 9223372036854775807 := by unfold maxLen at hcm; omega
    go_enter Try.func46, Try.ntmps46
    go_wp2_with fail
    go_loopw [11] (fun i wr => ∃ k : Nat, k ≤ ws.length ∧ i = .int .i64 k ∧ Kept (fun k => k = bs) w wr ∧ Blk wr bs (laidTo kf ws st k) 129) (fun i _ => ws.length - (intOf i).toNat)
    case atStart => exact ⟨0, Nat.zero_le _, rfl, Kept.refl _ _, hs⟩
    case round =>
      obtain ⟨k, hk, rfl, hkept, hsr⟩ := hrel
      have hbr := hkept.blk hb Hne.out
      have hgr := hkept.blk hgb Hgs.out
      clear c0 c1 f1
      have c0 : wr.cell? ⟨b, 0, none⟩ = some (.slice (some ⟨bs, 0, none⟩) n n) := hbr.cell 0
      have c1 : wr.cell? ⟨b, 1, none⟩ = some (.slice (some ⟨g, 0, none⟩) ws.length cap) := hbr.cell 1
      have f1 : wr.frozen? ⟨b, 1, none⟩ = false := hbr.frozen 1
      by_cases hlt : k < ws.length
      · obtain ⟨p, hp⟩ : ∃ p, ws[k]? = some p := ⟨_, List.getElem?_eq_getElem hlt⟩
        have hpo := Hw.out p (List.mem_of_getElem? hp)
        have hM : (cur.toList.drop (k * 65)).take 65 = .int .i64 p.1 :: p.2 := by
          rw [← flat_at n ws Hw.out k p hp, ← Htk.out, List.drop_take, List.take_take]
          congr 1
          omega
        obtain ⟨M, hMe⟩ : ∃ M, M = Value.int .i64 p.1 :: p.2 := ⟨_, rfl⟩
        rw [← hMe] at hM
        have hM1 : ∀ v ∈ M, v.oneCell' = true := by
          intro v hv
          rw [hMe] at hv
          rcases List.mem_cons.1 hv with rfl | hv
          · rfl
          · exact (hpo.2.2 v hv).one
        have hM2 : M.length = 65 := by rw [hMe]; simp [hpo.2.1]
        have HM1 := hide hM1
        have HM2 := hide hM2
        have HMe := hide hMe
        have HM := hide hM
        have Hp := hide hp
        obtain ⟨hpn, hp64, hpb⟩ := hpo
        have Hp64 := hide hp64
        have Hpb := hide hpb
        clear hM hp hp64 hpb hMe hM1 hM2
        have kw3 : ∀ w3 w2, Kept (fun _ => False) wr w2 → Kept (fun k => k = wr.heap.size) w2 w3 → Kept (fun k => k = bs) w w3 := by
          intro w3 w2 hk2 hk3
          refine (hkept.trans hk2 (fun i _ h => h.elim)).trans hk3 (fun i hi h => ?_)
          have := hkept.size
          omega
        have KW3 := hide kw3
        clear kw3
        have hnloc : ∀ x, x < wr.heap.size → ¬ x = wr.heap.size := fun x hx => by omega
        have Hnl := hide hnloc
        clear hnloc
        cases hkf : kf k
        · go_wp2_with (first
          | ((with_reducible refine aw_load Try.agg131 rfl hgr (by rw [Hcl.out]; omega) HM.out ?_))
          | ((with_reducible refine aw_alloc Hi72.out Hz72.out ?_); intro w2 hw2 hk2 hz2; have Hz2 := hide hz2; clear hz2)
          | ((with_reducible refine aw_store Try.agg131 rfl rfl HM2.out HM1.out hw2 (by simp [Value.cells]) ?_); intro w3 hw3 hk3 hz3; rw [put_whole _ _ (by rw [HM2.out]; simp [Value.cells])] at hw3; have Hz3 := hide hz3; clear hz3)
          | (go_at_call 47; refine (Hkeep.out k w3 hlt (KW3.out w3 w2 hk2 hk3)).mono ?_; rintro e w4 ⟨rfl, rfl⟩))
          have hs3 : Blk w3 bs (laidTo kf ws st (k + 1)) 129 := by
            rw [laidTo_succ kf ws st k p Hp.out, hkf]
            exact hk3.blk (hk2.blk hsr (fun h => h)) (Hnl.out _ hsr.lt)
          go_roundw
          case rel => exact ⟨k + 1, by omega, by go_num, KW3.out w3 w2 hk2 hk3, hs3⟩
          case measure => simp [intOf]; omega
        · go_wp2_with (first
          | ((with_reducible refine aw_load Try.agg131 rfl hgr (by rw [Hcl.out]; omega) HM.out ?_))
          | ((with_reducible refine aw_alloc Hi72.out Hz72.out ?_); intro w2 hw2 hk2 hz2; have Hz2 := hide hz2; clear hz2)
          | ((with_reducible refine aw_store Try.agg131 rfl rfl HM2.out HM1.out hw2 (by simp [Value.cells]) ?_); intro w3 hw3 hk3 hz3; rw [put_whole _ _ (by rw [HM2.out]; simp [Value.cells])] at hw3; have Hz3 := hide hz3; clear hz3)
          | (go_at_call 47; refine (Hkeep.out k w3 hlt (KW3.out w3 w2 hk2 hk3)).mono ?_; rintro e w4 ⟨rfl, rfl⟩))
          refine region_tail 9 Try.mixed (by kernel_rfl) ?_
          intro w4 hk4 hz4
          have Hz4 := hide hz4
          clear hz4
          have hs4 := hk4.blk (hk3.blk (hk2.blk hsr (fun h => h)) (Hnl.out _ hsr.lt)) (fun h => h)
          have hb4 := hk4.blk (hk3.blk (hk2.blk hbr (fun h => h)) (Hnl.out _ hbr.lt)) (fun h => h)
          have hl4 := hk4.blk hw3 (fun h => h)
          have d0 : w4.cell? ⟨b, 0, none⟩ = some (.slice (some ⟨bs, 0, none⟩) n n) := hb4.cell 0
          have d1 : w4.cell? ⟨wr.heap.size, 0, none⟩ = some (.int .i64 p.1) := by rw [hl4.cell 0, HMe.out]; rfl
          simp only [List.take_succ_cons, List.take_zero, List.drop_succ_cons, List.drop_zero]
          still_step
          still_step
          still_step
          still_step
          still_step
          still_step
          still_step
          refine st_load (M := p.2) Try.agg129 rfl hl4 (by rw [HM2.out]; decide) (by rw [HMe.out]; exact List.take_of_length_le (Nat.le_of_eq Hp64.out)) ?_
          still_step
          refine wpStill_nil ?_
          refine aw_store Try.agg129 rfl rfl Hp64.out (fun v hv => (Hpb.out v hv).one) hs4 (by rw [(Hok.out k (by omega)).1]; omega) ?_
          intro w5 hw5 hk5 _
          have hs5 : Blk w5 bs (laidTo kf ws st (k + 1)) 129 := by
            rw [laidTo_succ kf ws st k p Hp.out, hkf, Nat.mul_comm 64]
            simpa using hw5
          have hk55 : Kept (fun k => k = bs) w w5 := ((KW3.out w3 w2 hk2 hk3).trans hk4 (fun i _ h => h.elim)).trans hk5 (fun i _ h => h)
          clear hw5 hs4 hb4 hl4 d0 d1 hk4 hk5 hk3 hk2 hw2 hw3
          go_wp2
          go_roundw
          case rel => exact ⟨k + 1, by omega, by go_num, hk55, hs5⟩
          case measure => simp [intOf]; omega
      · obtain rfl : ws.length = k := by omega
        go_wp2
        go_end0
        refine ⟨rfl, ?_, ?_, ?_⟩
        · exact (hkept.mono (fun i _ h => Or.inr h)).trans (Kept.setCell (S := fun k => k = b) wr ⟨b, 1, none⟩ _ rfl) (fun i _ h => Or.inl h)
        · exact hbr.setCell 1 _
        · exact (Kept.setCell (S := fun k => k = b) wr ⟨b, 1, none⟩ _ rfl).blk hsr (fun h => Hne.out h.symm)

end Go.Proofs.Ytnlcmgdeohbmoaa.D

/-
  (*Dev).seen: what stays, with what waits over it, of some sectors.
-/
namespace Go.Proofs.Ytnlcmgdeohbmoaa.D
open Go.RowKit
set_option linter.unusedSimpArgs false
set_option linter.unusedVariables false
set_option maxRecDepth 100000

/-- Some sectors of a row. -/
def part (L : List Value) (a m : Nat) : List Value := (L.drop (64 * a)).take (64 * m)

theorem part_length (L : List Value) (n a m : Nat) (hl : L.length = 64 * n) (h : a + m ≤ n) : (part L a m).length = 64 * m := by
  simp [part]; omega

theorem getElem?_put (L M : List Value) (o j : Nat) (h : o + M.length ≤ L.length) : (put L o M)[j]? = if j < o then L[j]? else if j < o + M.length then M[j - o]? else L[j]? := by
  have ht : (L.take o).length = o := by simp; omega
  unfold put
  rw [List.append_assoc]
  split
  · rw [List.getElem?_append_left (by omega), List.getElem?_take]
    simp [*]
  · rw [List.getElem?_append_right (by omega), ht]
    split
    · rw [List.getElem?_append_left (by omega)]
    · rw [List.getElem?_append_right (by omega), List.getElem?_drop]
      congr 1
      omega

theorem getElem?_part (L : List Value) (a m j : Nat) : (part L a m)[j]? = if j < 64 * m then L[64 * a + j]? else none := by
  unfold part
  rw [List.getElem?_take, List.getElem?_drop]

theorem part_put_out (L M : List Value) (n a m p : Nat) (hl : L.length = 64 * n) (hM : M.length = 64) (hp : p < n) (hout : p < a ∨ a + m ≤ p) : part (put L (64 * p) M) a m = part L a m := by
  apply List.ext_getElem?
  intro j
  rw [getElem?_part, getElem?_part, getElem?_put _ _ _ _ (by omega)]
  by_cases hj : j < 64 * m
  · rw [if_pos hj, if_pos hj]
    by_cases c1 : 64 * a + j < 64 * p
    · rw [if_pos c1]
    · rw [if_neg c1, if_neg (by omega)]
  · rw [if_neg hj, if_neg hj]

theorem part_put_in (L M : List Value) (n a m p : Nat) (hl : L.length = 64 * n) (hM : M.length = 64) (h : a + m ≤ n) (h1 : a ≤ p) (h2 : p < a + m) : part (put L (64 * p) M) a m = put (part L a m) (64 * (p - a)) M := by
  apply List.ext_getElem?
  intro j
  have hlp := part_length L n a m hl h
  rw [getElem?_part, getElem?_put _ _ _ _ (by omega), getElem?_put _ _ _ _ (by omega), getElem?_part]
  by_cases hj : j < 64 * m
  · rw [if_pos hj, if_pos hj]
    by_cases c1 : 64 * a + j < 64 * p
    · rw [if_pos c1, if_pos (show j < 64 * (p - a) by omega)]
    · rw [if_neg c1, if_neg (show ¬ j < 64 * (p - a) by omega)]
      by_cases c2 : 64 * a + j < 64 * p + M.length
      · rw [if_pos c2, if_pos (show j < 64 * (p - a) + M.length by omega)]
        congr 1
        omega
      · rw [if_neg c2, if_neg (show ¬ j < 64 * (p - a) + M.length by omega)]
  · rw [if_neg hj, if_neg hj, if_neg (show ¬ j < 64 * (p - a) by omega), if_neg (show ¬ j < 64 * (p - a) + M.length by omega)]

theorem put_part_first (st : List Value) (n so at_ m : Nat) (hl : st.length = 64 * n) (ham : at_ + m ≤ n) (hso : so = if n = at_ then 0 else 0 + at_ * 64) :
    put (List.replicate (m * 64) (.int .u8 0)) 0 ((st.drop so).take (m * 64)) = part st at_ m := by
  have hm : n = at_ → m = 0 := by omega
  rw [put_whole _ _ (by
    by_cases h : n = at_
    · simp [hm h]
    · rw [if_neg h] at hso; simp; omega)]
  unfold part
  by_cases h : n = at_
  · simp [hm h]
  · rw [if_neg h] at hso
    rw [hso, Nat.zero_add, Nat.mul_comm m, Nat.mul_comm at_]

/-- What is seen. -/
def view (ws : List (Nat × List Value)) (st : List Value) (k : Nat) : List Value := laidTo (fun _ => true) ws st k

set_option maxRecDepth 100000 in
set_option maxHeartbeats 2000000 in
theorem seen_at (w : World) (b bs n at_ m : Nat) (wv c l o : Value) (st : List Value) (ws : List (Nat × List Value)) (hn : n ≤ 4096) (ham : at_ + m ≤ n)
    (hb : Blk w b [.slice (some ⟨bs, 0, none⟩) n n, wv, c, l, o] 72) (hs : Blk w bs st 129) (how : w.ownsRow 0 131 65 wv ws.length (flat ws))
    (hl : st.length = 64 * n) (hB : ∀ v ∈ st, isByte v) (hw : ∀ p ∈ ws, okWait n p) :
    Calls Try.prog 52 #[.pointer (some ⟨b, 0, none⟩), .int .i64 at_, .int .i64 m] w fun e w' => e = .returned (.slice (some ⟨w.heap.size, 0, none⟩) m m) ∧ Kept (fun _ => False) w w' ∧
      Blk w' w.heap.size (part (view ws st ws.length) at_ m) 129 := by
  have hok : ∀ k, k ≤ ws.length → (view ws st k).length = 64 * n ∧ ∀ v ∈ view ws st k, isByte v := laidTo_ok (fun _ => true) n ws st hw hl hB
  have Hok := hide hok
  have Hw := hide hw
  have Hl := hide hl
  have HB := hide hB
  obtain ⟨i72, hi72, hz72, hs72, hb72⟩ := info_parts Try.info131
  have Hi72 := hide hi72
  have Hz72 := hide hz72
  obtain ⟨i70, hi70, hz70, hs70, hb70⟩ := info_parts Try.info129
  have Hi70 := hide hi70
  have Hz70 := hide hz70
  have Hs70 := hide hs70
  have Hb70 := hide hb70
  clear hi72 hz72 hs72 hb72 hi70 hz70 hs70 hb70 hok hw hl hB
  have c0 : w.cell? ⟨b, 0, none⟩ = some (.slice (some ⟨bs, 0, none⟩) n n) := hb.cell 0
  have c1 : w.cell? ⟨b, 1, none⟩ = some wv := hb.cell 1
  obtain ⟨so, hso⟩ : ∃ so, so = if n = at_ then 0 else 0 + at_ * 64 := ⟨_, rfl⟩
  have Hso := hide hso
  clear hso
  have hcp1 : so + m * 64 ≤ st.length := by rw [Hl.out, Hso.out]; split <;> omega
  have Hcp1 := hide hcp1
  have hcp2 : 0 + m * 64 ≤ (List.replicate (m * 64) (Value.int .u8 0)).length := by simp
  have Hcp2 := hide hcp2
  have hcp3 : m = min (n - at_) m := by omega
  have Hcp3 := hide hcp3
  clear hcp1 hcp2 hcp3
  have hblt := hb.lt
  have hslt := hs.lt
  have hkw2 : ∀ w1 w2, Kept (fun _ => False) w w1 → Kept (fun k => k = w.heap.size) w1 w2 → Kept (fun _ => False) w w2 := by
    intro w1 w2 h1 h2
    exact h1.trans h2 (fun i hi h => by omega)
  have Hkw2 := hide hkw2
  clear hkw2
  rcases how.2 with ⟨rfl, hz⟩ | ⟨g, cap, cur, rfl, _, hg, hnc, hcm, hcs, htk⟩
  · have hws : ws = [] := List.eq_nil_of_length_eq_zero hz
    subst hws
    clear hz
    go_enter Try.func52, Try.ntmps52
    go_wp2_with (first
      | ((with_reducible refine aw_make (n := m) 64 (by decide) Try.underlying69 Hi70.out Hz70.out rfl Hs70.out rfl rfl (by rw [Hb70.out]; omega) (by unfold maxLen; omega) ?_); intro w1 hw1 hk1 hz1; have d0 : w1.cell? ⟨b, 0, none⟩ = some (.slice (some ⟨bs, 0, none⟩) n n) := (hk1.blk hb (fun h => h)).cell 0; have Hz1 := hide hz1; clear hz1)
      | ((with_reducible refine aw_slice_any Try.underlying69 Hi70.out 64 Hs70.out rfl at_ rfl (by omega) so Hso.out ?_))
      | ((with_reducible refine aw_copy Try.underlying69 Hi70.out 64 Hs70.out rfl rfl m Hcp3.out hw1 (hk1.blk hs (fun h => h)) Hcp1.out Hcp2.out (fun v hv => (HB.out v hv).one) ?_); intro w2 hw2 hk2 hz2; have Hz2 := hide hz2; have hb2 := (hk2.blk (hk1.blk hb (fun h => h)) (fun h => absurd h (by omega))); have e1 : w2.cell? ⟨b, 1, none⟩ = some (.slice none 0 0) := hb2.cell 1; clear hz2))
    refine wp_loop_rounds 1 ?_
    rw [rounds_succ]
    go_wp2
    go_ret
    refine ⟨rfl, Hkw2.out w1 w2 hk1 hk2, ?_⟩
    rw [put_part_first st n so at_ m Hl.out ham Hso.out] at hw2
    exact hw2
  · have hgb : Blk w g cur.toList 131 := by unfold Blk; simpa using hg
    have hcl : cur.toList.length = cap * 65 := by simpa using hcs
    have Hcl := hide hcl
    have Htk := hide htk
    have hglt := hgb.lt
    clear hg hcs htk hcl
    have hmx : ws.length ≤ 9223372036854775807 := by unfold maxLen at hcm; omega
    go_enter Try.func52, Try.ntmps52
    go_wp2_with (first
      | ((with_reducible refine aw_make (n := m) 64 (by decide) Try.underlying69 Hi70.out Hz70.out rfl Hs70.out rfl rfl (by rw [Hb70.out]; omega) (by unfold maxLen; omega) ?_); intro w1 hw1 hk1 hz1; have d0 : w1.cell? ⟨b, 0, none⟩ = some (.slice (some ⟨bs, 0, none⟩) n n) := (hk1.blk hb (fun h => h)).cell 0; have Hz1 := hide hz1; clear hz1)
      | ((with_reducible refine aw_slice_any Try.underlying69 Hi70.out 64 Hs70.out rfl at_ rfl (by omega) so Hso.out ?_))
      | ((with_reducible refine aw_copy Try.underlying69 Hi70.out 64 Hs70.out rfl rfl m Hcp3.out hw1 (hk1.blk hs (fun h => h)) Hcp1.out Hcp2.out (fun v hv => (HB.out v hv).one) ?_); intro w2 hw2 hk2 hz2; have Hz2 := hide hz2; have hb2 := (hk2.blk (hk1.blk hb (fun h => h)) (fun h => absurd h (by omega))); have e1 : w2.cell? ⟨b, 1, none⟩ = some (.slice (some ⟨g, 0, none⟩) ws.length cap) := hb2.cell 1; clear hz2))
    rw [put_part_first st n so at_ m Hl.out ham Hso.out] at hw2
    have hkk := Hkw2.out w1 w2 hk1 hk2
    clear hk1 hk2 hw1 d0 e1 hb2
    go_loopw [25] (fun i wr => ∃ k : Nat, k ≤ ws.length ∧ i = .int .i64 k ∧ Kept (fun _ => False) w wr ∧ Blk wr w.heap.size (part (view ws st k) at_ m) 129) (fun i _ => ws.length - (intOf i).toNat)
    case atStart => exact ⟨0, Nat.zero_le _, rfl, hkk, hw2⟩
    case round =>
      obtain ⟨k, hk, rfl, hkept, hsr⟩ := hrel
      have hgr := hkept.blk hgb (fun h => h)
      clear c0 c1 hkk hw2
      by_cases hlt : k < ws.length
      · obtain ⟨p, hp⟩ : ∃ p, ws[k]? = some p := ⟨_, List.getElem?_eq_getElem hlt⟩
        have hpo := Hw.out p (List.mem_of_getElem? hp)
        have hM : (cur.toList.drop (k * 65)).take 65 = .int .i64 p.1 :: p.2 := by
          rw [← flat_at n ws Hw.out k p hp, ← Htk.out, List.drop_take, List.take_take]
          congr 1
          omega
        obtain ⟨M, hMe⟩ : ∃ M, M = Value.int .i64 p.1 :: p.2 := ⟨_, rfl⟩
        rw [← hMe] at hM
        have hM1 : ∀ v ∈ M, v.oneCell' = true := by
          intro v hv
          rw [hMe] at hv
          rcases List.mem_cons.1 hv with rfl | hv
          · rfl
          · exact (hpo.2.2 v hv).one
        have hM2 : M.length = 65 := by rw [hMe]; simp [hpo.2.1]
        have HM1 := hide hM1
        have HM2 := hide hM2
        have hM3 : (M.drop 1).take 64 = p.2 := by rw [hMe]; exact List.take_of_length_le (Nat.le_of_eq hpo.2.1)
        have HM3 := hide hM3
        have HMe := hide hMe
        have HM := hide hM
        have Hp := hide hp
        obtain ⟨hpn, hp64, hpb⟩ := hpo
        have Hp64 := hide hp64
        have Hpb := hide hpb
        have hvs : view ws st (k + 1) = put (view ws st k) (64 * p.1) p.2 := laidTo_succ _ ws st k p hp
        have Hvs := hide hvs
        clear hM hp hp64 hpb hMe hM1 hM2 hM3 hvs
        have hsz := hkept.size
        have hgl := hsr.lt
        have hfit : (p.1 - at_) * 64 + 64 ≤ (part (view ws st k) at_ m).length ∨ ¬ (at_ ≤ p.1 ∧ p.1 < at_ + m) := by
          by_cases h : at_ ≤ p.1 ∧ p.1 < at_ + m
          · left; rw [part_length _ n at_ m (Hok.out k (by omega)).1 ham]; omega
          · exact .inr h
        have Hfit := hide hfit
        have hpl : ∀ v ∈ p.2, v.oneCell' = true := fun v hv => (Hpb.out v hv).one
        have Hpl := hide hpl
        clear hfit hpl
        by_cases hin1 : at_ ≤ p.1
        · by_cases hin2 : p.1 < at_ + m
          · go_wp2_with (first
            | ((with_reducible refine aw_load Try.agg131 rfl hgr (by rw [Hcl.out]; omega) HM.out ?_))
            | ((with_reducible refine aw_alloc Hi72.out Hz72.out ?_); intro w2 hw2 hk2 hz2; have Hz2 := hide hz2; clear hz2)
            | ((with_reducible refine aw_store Try.agg131 rfl rfl HM2.out HM1.out hw2 (by simp [Value.cells]) ?_); intro w3 hw3 hk3 hz3; rw [put_whole _ _ (by rw [HM2.out]; simp [Value.cells])] at hw3; have Hz3 := hide hz3; have l0 : w3.cell? ⟨wr.heap.size, 0, none⟩ = some (.int .i64 p.1) := (hw3.cell 0).trans (by rw [HMe.out]; rfl); clear hz3)
            | ((with_reducible refine aw_load Try.agg129 rfl hw3 (by rw [HM2.out]; decide) HM3.out ?_))
            | (with_reducible refine stop_store 129 ?_))
            refine hide ?_
            refine aw_store Try.agg129 rfl rfl Hp64.out Hpl.out (hk3.blk (hk2.blk hsr (fun h => h)) (fun h => absurd h (by omega))) (Hfit.out.resolve_right (fun h => h ⟨hin1, hin2⟩)) ?_
            intro w4 hw4 hk4 hz4
            have hs4 : Blk w4 w.heap.size (part (view ws st (k + 1)) at_ m) 129 := by
              rw [Hvs.out, part_put_in _ _ n at_ m p.1 (Hok.out k (by omega)).1 Hp64.out ham hin1 hin2, Nat.mul_comm 64]
              exact hw4
            have hk44 : Kept (fun _ => False) w w4 := ((hkept.trans hk2 (fun _ _ h => h)).trans hk3 (fun i hi h => by omega)).trans hk4 (fun i hi h => by omega)
            clear hz4 hw4 hk4 hk3 hk2 hw2 hw3 l0 hgr hsr hkept hgl
            go_wp2
            go_roundw
            case rel => exact ⟨k + 1, by omega, by go_num, hk44, hs4⟩
            case measure => simp [intOf]; omega
          · go_wp2_with (first
            | ((with_reducible refine aw_load Try.agg131 rfl hgr (by rw [Hcl.out]; omega) HM.out ?_))
            | ((with_reducible refine aw_alloc Hi72.out Hz72.out ?_); intro w2 hw2 hk2 hz2; have Hz2 := hide hz2; clear hz2)
            | ((with_reducible refine aw_store Try.agg131 rfl rfl HM2.out HM1.out hw2 (by simp [Value.cells]) ?_); intro w3 hw3 hk3 hz3; rw [put_whole _ _ (by rw [HM2.out]; simp [Value.cells])] at hw3; have Hz3 := hide hz3; have l0 : w3.cell? ⟨wr.heap.size, 0, none⟩ = some (.int .i64 p.1) := (hw3.cell 0).trans (by rw [HMe.out]; rfl); clear hz3)
            | ((with_reducible refine aw_load Try.agg129 rfl hw3 (by rw [HM2.out]; decide) HM3.out ?_)))
            have hs3 : Blk w3 w.heap.size (part (view ws st (k + 1)) at_ m) 129 := by
              rw [Hvs.out, part_put_out _ _ n at_ m p.1 (Hok.out k (by omega)).1 Hp64.out hpn (by omega)]
              exact hk3.blk (hk2.blk hsr (fun h => h)) (fun h => absurd h (by omega))
            have hk33 : Kept (fun _ => False) w w3 := (hkept.trans hk2 (fun _ _ h => h)).trans hk3 (fun i hi h => by omega)
            go_roundw
            case rel => exact ⟨k + 1, by omega, by go_num, hk33, hs3⟩
            case measure => simp [intOf]; omega
        · go_wp2_with (first
            | ((with_reducible refine aw_load Try.agg131 rfl hgr (by rw [Hcl.out]; omega) HM.out ?_))
            | ((with_reducible refine aw_alloc Hi72.out Hz72.out ?_); intro w2 hw2 hk2 hz2; have Hz2 := hide hz2; clear hz2)
            | ((with_reducible refine aw_store Try.agg131 rfl rfl HM2.out HM1.out hw2 (by simp [Value.cells]) ?_); intro w3 hw3 hk3 hz3; rw [put_whole _ _ (by rw [HM2.out]; simp [Value.cells])] at hw3; have Hz3 := hide hz3; have l0 : w3.cell? ⟨wr.heap.size, 0, none⟩ = some (.int .i64 p.1) := (hw3.cell 0).trans (by rw [HMe.out]; rfl); clear hz3)
            | ((with_reducible refine aw_load Try.agg129 rfl hw3 (by rw [HM2.out]; decide) HM3.out ?_)))
          have hs3 : Blk w3 w.heap.size (part (view ws st (k + 1)) at_ m) 129 := by
            rw [Hvs.out, part_put_out _ _ n at_ m p.1 (Hok.out k (by omega)).1 Hp64.out hpn (by omega)]
            exact hk3.blk (hk2.blk hsr (fun h => h)) (fun h => absurd h (by omega))
          have hk33 : Kept (fun _ => False) w w3 := (hkept.trans hk2 (fun _ _ h => h)).trans hk3 (fun i hi h => by omega)
          go_roundw
          case rel => exact ⟨k + 1, by omega, by go_num, hk33, hs3⟩
          case measure => simp [intOf]; omega
      · obtain rfl : ws.length = k := by omega
        go_wp2
        go_ret
        exact ⟨rfl, hkept, hsr⟩

end Go.Proofs.Ytnlcmgdeohbmoaa.D
