/-
  (*Dev).seen: what stays, with what waits over it, of some sectors.
-/
import Derived.Test.YtbbhchmdggfncaaJ17
import Derived.Test.YtbbhchmdggfncaaJ18
import Derived.Test.YtbbhchmdggfncaaJ19
import Derived.Test.YtbbhchmdggfncaaJ04
namespace Go.Proofs.Ytbbhchmdggfncaa.D
open Go.RowKit
set_option linter.unusedSimpArgs false
set_option linter.unusedVariables false
set_option maxRecDepth 100000

/-- Some sectors of a row. -/
def part (L : List Value) (a m : Nat) : List Value := (L.drop (64 * a)).take (64 * m)

theorem part_length (L : List Value) (n a m : Nat) (hl : L.length = 64 * n) (h : a + m ≤ n) : (part L a m).length = 64 * m := by
  simp [part]; omega

theorem getElem?_put (L M : List Value) (o j : Nat) (h : o + M.length ≤ L.length) : (put L o M)[j]? = if j < o then L[j]? else if j < o + M.length then M[j - o]? else L[j]? := by
  have ht : (L.take o).length = o := by simp; omega
  unfold put
  rw [List.append_assoc]
  split
  · rw [List.getElem?_append_left (by omega), List.getElem?_take]
    simp [*]
  · rw [List.getElem?_append_right (by omega), ht]
    split
    · rw [List.getElem?_append_left (by omega)]
    · rw [List.getElem?_append_right (by omega), List.getElem?_drop]
      congr 1
      omega

theorem getElem?_part (L : List Value) (a m j : Nat) : (part L a m)[j]? = if j < 64 * m then L[64 * a + j]? else none := by
  unfold part
  rw [List.getElem?_take, List.getElem?_drop]

theorem part_put_out (L M : List Value) (n a m p : Nat) (hl : L.length = 64 * n) (hM : M.length = 64) (hp : p < n) (hout : p < a ∨ a + m ≤ p) : part (put L (64 * p) M) a m = part L a m := by
  apply List.ext_getElem?
  intro j
  rw [getElem?_part, getElem?_part, getElem?_put _ _ _ _ (by omega)]
  by_cases hj : j < 64 * m
  · rw [if_pos hj, if_pos hj]
    by_cases c1 : 64 * a + j < 64 * p
    · rw [if_pos c1]
    · rw [if_neg c1, if_neg (by omega)]
  · rw [if_neg hj, if_neg hj]

theorem part_put_in (L M : List Value) (n a m p : Nat) (hl : L.length = 64 * n) (hM : M.length = 64) (h : a + m ≤ n) (h1 : a ≤ p) (h2 : p < a + m) : part (put L (64 * p) M) a m = put (part L a m) (64 * (p - a)) M := by
  apply List.ext_getElem?
  intro j
  have hlp := part_length L n a m hl h
  rw [getElem?_part, getElem?_put _ _ _ _ (by omega), getElem?_put _ _ _ _ (by omega), getElem?_part]
  by_cases hj : j < 64 * m
  · rw [if_pos hj, if_pos hj]
    by_cases c1 : 64 * a + j < 64 * p
    · rw [if_pos c1, if_pos (show j < 64 * (p - a) by omega)]
    · rw [if_neg c1, if_neg (show ¬ j < 64 * (p - a) by omega)]
      by_cases c2 : 64 * a + j < 64 * p + M.length
      · rw [if_pos c2, if_pos (show j < 64 * (p - a) + M.length by omega)]
        congr 1
        omega
      · rw [if_neg c2, if_neg (show ¬ j < 64 * (p - a) + M.length by omega)]
  · rw [if_neg hj, if_neg hj, if_neg (show ¬ j < 64 * (p - a) by omega), if_neg (show ¬ j < 64 * (p - a) + M.length by omega)]

theorem put_part_first (st : List Value) (n so at_ m : Nat) (hl : st.length = 64 * n) (ham : at_ + m ≤ n) (hso : so = if n = at_ then 0 else 0 + at_ * 64) :
    put (List.replicate (m * 64) (.int .u8 0)) 0 ((st.drop so).take (m * 64)) = part st at_ m := by
  have hm : n = at_ → m = 0 := by omega
  rw [put_whole _ _ (by
    by_cases h : n = at_
    · simp [hm h]
    · rw [if_neg h] at hso; simp; omega)]
  unfold part
  by_cases h : n = at_
  · simp [hm h]
  · rw [if_neg h] at hso
    rw [hso, Nat.zero_add, Nat.mul_comm m, Nat.mul_comm at_]

/-- What is seen. -/
def view (ws : List (Nat × List Value)) (st : List Value) (k : Nat) : List Value := laidTo (fun _ => true) ws st k

set_option maxRecDepth 100000 in
set_option maxHeartbeats 2000000 in
theorem seen_at (w : World) (b bs n at_ m : Nat) (wv c l o : Value) (st : List Value) (ws : List (Nat × List Value)) (hn : n ≤ 4096) (ham : at_ + m ≤ n)
    (hb : Blk w b [.slice (some ⟨bs, 0, none⟩) n n, wv, c, l, o] 63) (hs : Blk w bs st 85) (how : w.ownsRow 0 87 65 wv ws.length (flat ws))
    (hl : st.length = 64 * n) (hB : ∀ v ∈ st, isByte v) (hw : ∀ p ∈ ws, okWait n p) :
    Calls Try.prog 53 #[.pointer (some ⟨b, 0, none⟩), .int .i64 at_, .int .i64 m] w fun e w' => e = .returned (.slice (some ⟨w.heap.size, 0, none⟩) m m) ∧ Kept (fun _ => False) w w' ∧
      Blk w' w.heap.size (part (view ws st ws.length) at_ m) 85 := by
  have hok : ∀ k, k ≤ ws.length → (view ws st k).length = 64 * n ∧ ∀ v ∈ view ws st k, isByte v := laidTo_ok (fun _ => true) n ws st hw hl hB
  have Hok := hide hok
  have Hw := hide hw
  have Hl := hide hl
  have HB := hide hB
  obtain ⟨i72, hi72, hz72, hs72, hb72⟩ := info_parts Try.info87
  have Hi72 := hide hi72
  have Hz72 := hide hz72
  obtain ⟨i70, hi70, hz70, hs70, hb70⟩ := info_parts Try.info85
  have Hi70 := hide hi70
  have Hz70 := hide hz70
  have Hs70 := hide hs70
  have Hb70 := hide hb70
  clear hi72 hz72 hs72 hb72 hi70 hz70 hs70 hb70 hok hw hl hB
  have c0 : w.cell? ⟨b, 0, none⟩ = some (.slice (some ⟨bs, 0, none⟩) n n) := hb.cell 0
  have c1 : w.cell? ⟨b, 1, none⟩ = some wv := hb.cell 1
  obtain ⟨so, hso⟩ : ∃ so, so = if n = at_ then 0 else 0 + at_ * 64 := ⟨_, rfl⟩
  have Hso := hide hso
  clear hso
  have hcp1 : so + m * 64 ≤ st.length := by rw [Hl.out, Hso.out]; split <;> omega
  have Hcp1 := hide hcp1
  have hcp2 : 0 + m * 64 ≤ (List.replicate (m * 64) (Value.int .u8 0)).length := by simp
  have Hcp2 := hide hcp2
  have hcp3 : m = min (n - at_) m := by omega
  have Hcp3 := hide hcp3
  clear hcp1 hcp2 hcp3
  have hblt := hb.lt
  have hslt := hs.lt
  have hkw2 : ∀ w1 w2, Kept (fun _ => False) w w1 → Kept (fun k => k = w.heap.size) w1 w2 → Kept (fun _ => False) w w2 := by
    intro w1 w2 h1 h2
    exact h1.trans h2 (fun i hi h => by omega)
  have Hkw2 := hide hkw2
  clear hkw2
  rcases how.2 with ⟨rfl, hz⟩ | ⟨g, cap, cur, rfl, _, hg, hnc, hcm, hcs, htk⟩
  · have hws : ws = [] := List.eq_nil_of_length_eq_zero hz
    subst hws
    clear hz
    go_enter Try.func53, Try.ntmps53
    go_wp2_with (first
      | ((with_reducible refine aw_make (n := m) 64 (by decide) Try.underlying60 Hi70.out Hz70.out rfl Hs70.out rfl rfl (by rw [Hb70.out]; omega) (by unfold maxLen; omega) ?_); intro w1 hw1 hk1 hz1; have d0 : w1.cell? ⟨b, 0, none⟩ = some (.slice (some ⟨bs, 0, none⟩) n n) := (hk1.blk hb (fun h => h)).cell 0; have Hz1 := hide hz1; clear hz1)
      | ((with_reducible refine aw_slice_any Try.underlying60 Hi70.out 64 Hs70.out rfl at_ rfl (by omega) so Hso.out ?_))
      | ((with_reducible refine aw_copy Try.underlying60 Hi70.out 64 Hs70.out rfl rfl m Hcp3.out hw1 (hk1.blk hs (fun h => h)) Hcp1.out Hcp2.out (fun v hv => (HB.out v hv).one) ?_); intro w2 hw2 hk2 hz2; have Hz2 := hide hz2; have hb2 := (hk2.blk (hk1.blk hb (fun h => h)) (fun h => absurd h (by omega))); have e1 : w2.cell? ⟨b, 1, none⟩ = some (.slice none 0 0) := hb2.cell 1; clear hz2))
    refine wp_loop_rounds 1 ?_
    rw [rounds_succ]
    go_wp2
    go_ret
    refine ⟨rfl, Hkw2.out w1 w2 hk1 hk2, ?_⟩
    rw [put_part_first st n so at_ m Hl.out ham Hso.out] at hw2
    exact hw2
  · have hgb : Blk w g cur.toList 87 := by unfold Blk; simpa using hg
    have hcl : cur.toList.length = cap * 65 := by simpa using hcs
    have Hcl := hide hcl
    have Htk := hide htk
    have hglt := hgb.lt
    clear hg hcs htk hcl
    have hmx : ws.length ≤ 9223372036854775807 := by unfold maxLen at hcm; omega
    go_enter Try.func53, Try.ntmps53
    go_wp2_with (first
      | ((with_reducible refine aw_make (n := m) 64 (by decide) Try.underlying60 Hi70.out Hz70.out rfl Hs70.out rfl rfl (by rw [Hb70.out]; omega) (by unfold maxLen; omega) ?_); intro w1 hw1 hk1 hz1; have d0 : w1.cell? ⟨b, 0, none⟩ = some (.slice (some ⟨bs, 0, none⟩) n n) := (hk1.blk hb (fun h => h)).cell 0; have Hz1 := hide hz1; clear hz1)
      | ((with_reducible refine aw_slice_any Try.underlying60 Hi70.out 64 Hs70.out rfl at_ rfl (by omega) so Hso.out ?_))
      | ((with_reducible refine aw_copy Try.underlying60 Hi70.out 64 Hs70.out rfl rfl m Hcp3.out hw1 (hk1.blk hs (fun h => h)) Hcp1.out Hcp2.out (fun v hv => (HB.out v hv).one) ?_); intro w2 hw2 hk2 hz2; have Hz2 := hide hz2; have hb2 := (hk2.blk (hk1.blk hb (fun h => h)) (fun h => absurd h (by omega))); have e1 : w2.cell? ⟨b, 1, none⟩ = some (.slice (some ⟨g, 0, none⟩) ws.length cap) := hb2.cell 1; clear hz2))
    rw [put_part_first st n so at_ m Hl.out ham Hso.out] at hw2
    have hkk := Hkw2.out w1 w2 hk1 hk2
    clear hk1 hk2 hw1 d0 e1 hb2
    go_loopw [25] (fun i wr => ∃ k : Nat, k ≤ ws.length ∧ i = .int .i64 k ∧ Kept (fun _ => False) w wr ∧ Blk wr w.heap.size (part (view ws st k) at_ m) 85) (fun i _ => ws.length - (intOf i).toNat)
    case atStart => exact ⟨0, Nat.zero_le _, rfl, hkk, hw2⟩
    case round =>
      obtain ⟨k, hk, rfl, hkept, hsr⟩ := hrel
      have hgr := hkept.blk hgb (fun h => h)
      clear c0 c1 hkk hw2
      by_cases hlt : k < ws.length
      · obtain ⟨p, hp⟩ : ∃ p, ws[k]? = some p := ⟨_, List.getElem?_eq_getElem hlt⟩
        have hpo := Hw.out p (List.mem_of_getElem? hp)
        have hM : (cur.toList.drop (k * 65)).take 65 = .int .i64 p.1 :: p.2 := by
          rw [← flat_at n ws Hw.out k p hp, ← Htk.out, List.drop_take, List.take_take]
          congr 1
          omega
        obtain ⟨M, hMe⟩ : ∃ M, M = Value.int .i64 p.1 :: p.2 := ⟨_, rfl⟩
        rw [← hMe] at hM
        have hM1 : ∀ v ∈ M, v.oneCell' = true := by
          intro v hv
          rw [hMe] at hv
          rcases List.mem_cons.1 hv with rfl | hv
          · rfl
          · exact (hpo.2.2 v hv).one
        have hM2 : M.length = 65 := by rw [hMe]; simp [hpo.2.1]
        have HM1 := hide hM1
        have HM2 := hide hM2
        have hM3 : (M.drop 1).take 64 = p.2 := by rw [hMe]; exact List.take_of_length_le (Nat.le_of_eq hpo.2.1)
        have HM3 := hide hM3
        have HMe := hide hMe
        have HM := hide hM
        have Hp := hide hp
        obtain ⟨hpn, hp64, hpb⟩ := hpo
        have Hp64 := hide hp64
        have Hpb := hide hpb
        have hvs : view ws st (k + 1) = put (view ws st k) (64 * p.1) p.2 := laidTo_succ _ ws st k p hp
        have Hvs := hide hvs
        clear hM hp hp64 hpb hMe hM1 hM2 hM3 hvs
        have hsz := hkept.size
        have hgl := hsr.lt
        have hfit : (p.1 - at_) * 64 + 64 ≤ (part (view ws st k) at_ m).length ∨ ¬ (at_ ≤ p.1 ∧ p.1 < at_ + m) := by
          by_cases h : at_ ≤ p.1 ∧ p.1 < at_ + m
          · left; rw [part_length _ n at_ m (Hok.out k (by omega)).1 ham]; omega
          · exact .inr h
        have Hfit := hide hfit
        have hpl : ∀ v ∈ p.2, v.oneCell' = true := fun v hv => (Hpb.out v hv).one
        have Hpl := hide hpl
        clear hfit hpl
        by_cases hin1 : at_ ≤ p.1
        · by_cases hin2 : p.1 < at_ + m
          · go_wp2_with (first
            | ((with_reducible refine aw_load Try.agg87 rfl hgr (by rw [Hcl.out]; omega) HM.out ?_))
            | ((with_reducible refine aw_alloc Hi72.out Hz72.out ?_); intro w2 hw2 hk2 hz2; have Hz2 := hide hz2; clear hz2)
            | ((with_reducible refine aw_store Try.agg87 rfl rfl HM2.out HM1.out hw2 (by simp [Value.cells]) ?_); intro w3 hw3 hk3 hz3; rw [put_whole _ _ (by rw [HM2.out]; simp [Value.cells])] at hw3; have Hz3 := hide hz3; have l0 : w3.cell? ⟨wr.heap.size, 0, none⟩ = some (.int .i64 p.1) := (hw3.cell 0).trans (by rw [HMe.out]; rfl); clear hz3)
            | ((with_reducible refine aw_load Try.agg85 rfl hw3 (by rw [HM2.out]; decide) HM3.out ?_))
            | (with_reducible refine stop_store 85 ?_))
            refine hide ?_
            refine aw_store Try.agg85 rfl rfl Hp64.out Hpl.out (hk3.blk (hk2.blk hsr (fun h => h)) (fun h => absurd h (by omega))) (Hfit.out.resolve_right (fun h => h ⟨hin1, hin2⟩)) ?_
            intro w4 hw4 hk4 hz4
            have hs4 : Blk w4 w.heap.size (part (view ws st (k + 1)) at_ m) 85 := by
              rw [Hvs.out, part_put_in _ _ n at_ m p.1 (Hok.out k (by omega)).1 Hp64.out ham hin1 hin2, Nat.mul_comm 64]
              exact hw4
            have hk44 : Kept (fun _ => False) w w4 := ((hkept.trans hk2 (fun _ _ h => h)).trans hk3 (fun i hi h => by omega)).trans hk4 (fun i hi h => by omega)
            clear hz4 hw4 hk4 hk3 hk2 hw2 hw3 l0 hgr hsr hkept hgl
            go_wp2
            go_roundw
            case rel => exact ⟨k + 1, by omega, by go_num, hk44, hs4⟩
            case measure => simp [intOf]; omega
          · go_wp2_with (first
            | ((with_reducible refine aw_load Try.agg87 rfl hgr (by rw [Hcl.out]; omega) HM.out ?_))
            | ((with_reducible refine aw_alloc Hi72.out Hz72.out ?_); intro w2 hw2 hk2 hz2; have Hz2 := hide hz2; clear hz2)
            | ((with_reducible refine aw_store Try.agg87 rfl rfl HM2.out HM1.out hw2 (by simp [Value.cells]) ?_); intro w3 hw3 hk3 hz3; rw [put_whole _ _ (by rw [HM2.out]; simp [Value.cells])] at hw3; have Hz3 := hide hz3; have l0 : w3.cell? ⟨wr.heap.size, 0, none⟩ = some (.int .i64 p.1) := (hw3.cell 0).trans (by rw [HMe.out]; rfl); clear hz3)
            | ((with_reducible refine aw_load Try.agg85 rfl hw3 (by rw [HM2.out]; decide) HM3.out ?_)))
            have hs3 : Blk w3 w.heap.size (part (view ws st (k + 1)) at_ m) 85 := by
              rw [Hvs.out, part_put_out _ _ n at_ m p.1 (Hok.out k (by omega)).1 Hp64.out hpn (by omega)]
              exact hk3.blk (hk2.blk hsr (fun h => h)) (fun h => absurd h (by omega))
            have hk33 : Kept (fun _ => False) w w3 := (hkept.trans hk2 (fun _ _ h => h)).trans hk3 (fun i hi h => by omega)
            go_roundw
            case rel => exact ⟨k + 1, by omega, by go_num, hk33, hs3⟩
            case measure => simp [intOf]; omega
        · go_wp2_with (first
            | ((with_reducible refine aw_load Try.agg87 rfl hgr (by rw [Hcl.out]; omega) HM.out ?_))
            | ((with_reducible refine aw_alloc Hi72.out Hz72.out ?_); intro w2 hw2 hk2 hz2; have Hz2 := hide hz2; clear hz2)
            | ((with_reducible refine aw_store Try.agg87 rfl rfl HM2.out HM1.out hw2 (by simp [Value.cells]) ?_); intro w3 hw3 hk3 hz3; rw [put_whole _ _ (by rw [HM2.out]; simp [Value.cells])] at hw3; have Hz3 := hide hz3; have l0 : w3.cell? ⟨wr.heap.size, 0, none⟩ = some (.int .i64 p.1) := (hw3.cell 0).trans (by rw [HMe.out]; rfl); clear hz3)
            | ((with_reducible refine aw_load Try.agg85 rfl hw3 (by rw [HM2.out]; decide) HM3.out ?_)))
          have hs3 : Blk w3 w.heap.size (part (view ws st (k + 1)) at_ m) 85 := by
            rw [Hvs.out, part_put_out _ _ n at_ m p.1 (Hok.out k (by omega)).1 Hp64.out hpn (by omega)]
            exact hk3.blk (hk2.blk hsr (fun h => h)) (fun h => absurd h (by omega))
          have hk33 : Kept (fun _ => False) w w3 := (hkept.trans hk2 (fun _ _ h => h)).trans hk3 (fun i hi h => by omega)
          go_roundw
          case rel => exact ⟨k + 1, by omega, by go_num, hk33, hs3⟩
          case measure => simp [intOf]; omega
      · obtain rfl : ws.length = k := by omega
        go_wp2
        go_ret
        exact ⟨rfl, hkept, hsr⟩

end Go.Proofs.Ytbbhchmdggfncaa.D


/-
  A device in memory with its footprint; the small calls on it.
-/
namespace Go.Proofs.Ytbbhchmdggfncaa.D
open Go.RowKit
set_option linter.unusedSimpArgs false
set_option linter.unusedVariables false
set_option maxRecDepth 100000

structure DevIs (w : World) (b bs : Nat) (wv : Value) (n : Nat) (s : DS) : Prop where
  n1 : 1 ≤ n
  n2 : n ≤ 4096
  hb : Blk w b [.slice (some ⟨bs, 0, none⟩) n n, wv, .int .i64 s.calls, .int .i64 s.left, .bool s.off] 63
  hs : Blk w bs s.st 85
  hw : w.ownsRow 0 87 65 wv s.ws.length (flat s.ws)
  hl : s.st.length = 64 * n
  hB : ∀ v ∈ s.st, isByte v
  ok : ∀ p ∈ s.ws, okWait n p
  l1 : -1 ≤ s.left
  l2 : s.left ≤ 9223372036854775807

/-- The device's own blocks. -/
def foot (b bs : Nat) (wv : Value) (k : Nat) : Prop := k = b ∨ k = bs ∨ wv.ownBlock = some k

/-- A device at block b, of n sectors, in state s; its blocks are those of F. -/
def DevAt (w : World) (b n : Nat) (s : DS) (F : Nat → Prop) : Prop := ∃ bs wv, DevIs w b bs wv n s ∧ ∀ k, F k ↔ foot b bs wv k

/-- A step of the device: nothing else is touched; its blocks afterwards were its own before, or are new. -/
def DevStep (w w' : World) (b n : Nat) (s' : DS) (F : Nat → Prop) : Prop := Kept F w w' ∧ ∃ F', DevAt w' b n s' F' ∧ ∀ k, F' k → F k ∨ w.heap.size ≤ k

theorem ownsRow_kept {w w' : World} {S : Nat → Prop} {base e size n : Nat} {v : Value} {xs : List Value} (h : w.ownsRow base e size v n xs) (hk : Kept S w w') (hn : ∀ k, v.ownBlock = some k → ¬ S k) : w'.ownsRow base e size v n xs := by
  refine ⟨h.1, ?_⟩
  rcases h.2 with h2 | ⟨g, cap, cur, rfl, h3, hg, h4⟩
  · exact .inl h2
  · exact .inr ⟨g, cap, cur, rfl, h3, (hk.block g (Array.getElem?_eq_some_iff.1 hg).1 (hn g rfl)).trans hg, h4⟩

theorem DevIs.kept {w w' : World} {S : Nat → Prop} {b bs n : Nat} {wv : Value} {s : DS} (h : DevIs w b bs wv n s) (hk : Kept S w w') (hn : ∀ k, foot b bs wv k → ¬ S k) : DevIs w' b bs wv n s :=
  ⟨h.n1, h.n2, hk.blk h.hb (hn _ (.inl rfl)), hk.blk h.hs (hn _ (.inr (.inl rfl))), ownsRow_kept h.hw hk (fun k e => hn k (.inr (.inr e))), h.hl, h.hB, h.ok, h.l1, h.l2⟩

theorem DevAt.kept {w w' : World} {S : Nat → Prop} {b n : Nat} {s : DS} {F : Nat → Prop} (h : DevAt w b n s F) (hk : Kept S w w') (hn : ∀ k, F k → ¬ S k) : DevAt w' b n s F := by
  obtain ⟨bs, wv, hd, hf⟩ := h
  exact ⟨bs, wv, hd.kept hk (fun k hk => hn k ((hf k).2 hk)), hf⟩

theorem DevIs.lt {w : World} {b bs n : Nat} {wv : Value} {s : DS} (h : DevIs w b bs wv n s) : ∀ k, foot b bs wv k → k < w.heap.size := by
  rintro k (rfl | rfl | e)
  · exact h.hb.lt
  · exact h.hs.lt
  · exact (h.hw.lt k e).2

theorem DevAt.lt {w : World} {b n : Nat} {s : DS} {F : Nat → Prop} (h : DevAt w b n s F) : ∀ k, F k → k < w.heap.size := by
  obtain ⟨bs, wv, hd, hf⟩ := h
  exact fun k hk => hd.lt k ((hf k).1 hk)

theorem DevStep.refl {w : World} {b n : Nat} {s : DS} {F : Nat → Prop} (h : DevAt w b n s F) : DevStep w w b n s F := ⟨Kept.refl _ _, F, h, fun _ h => .inl h⟩

/-- The blocks of the waiting sectors are no others of the device. -/
theorem DevIs.apart {w : World} {b bs n : Nat} {wv : Value} {s : DS} (h : DevIs w b bs wv n s) : b ≠ bs ∧ wv.ownBlock ≠ some b ∧ wv.ownBlock ≠ some bs := by
  refine ⟨h.hb.ne h.hs (by decide), ?_, ?_⟩
  all_goals
    intro e
    rcases h.hw.2 with ⟨rfl, _⟩ | ⟨g, cap, cur, rfl, _, hg, _⟩
    · simp [Value.ownBlock] at e
    · simp [Value.ownBlock] at e
      have hgb : Blk w g cur.toList 87 := by unfold Blk; simpa using hg
      subst e
      first
        | exact absurd rfl (hgb.ne h.hb (by decide))
        | exact absurd rfl (hgb.ne h.hs (by decide))

set_option maxHeartbeats 400000 in
theorem ready_at (w : World) (b bs n : Nat) (wv : Value) (s : DS) (h : DevIs w b bs wv n s) :
    Calls Try.prog 27 #[.pointer (some ⟨b, 0, none⟩)] w fun e w' => e = .returned (.int .i64 (if s.off then 10 else 0)) ∧ w = w' := by
  have h4 : w.cell? ⟨b, 4, none⟩ = some (.bool s.off) := h.hb.cell 4
  clear h
  cases hoff : s.off
  all_goals
    rw [hoff] at h4
    clear hoff
    go_enter Try.func27, Try.ntmps27
    go_wp2
    go_ret
    exact ⟨rfl, rfl⟩

/-- Are m sectors from a on there? -/
def hasB (n : Nat) (a m : Int) : Bool := decide (0 ≤ a) && (decide (0 ≤ m) && decide (m ≤ n - a))

set_option maxHeartbeats 400000 in
theorem has_at (w : World) (b bs n : Nat) (wv : Value) (s : DS) (h : DevIs w b bs wv n s) (a m : Int) (ha2 : a ≤ 9223372036854775807) :
    Calls Try.prog 51 #[.pointer (some ⟨b, 0, none⟩), .int .i64 a, .int .i64 m] w fun e w' => e = .returned (.bool (hasB n a m)) ∧ w = w' := by
  have h4 : w.cell? ⟨b, 0, none⟩ = some (.slice (some ⟨bs, 0, none⟩) n n) := h.hb.cell 0
  have hn := h.n2
  clear h
  by_cases h1 : 0 ≤ a
  · by_cases h2 : 0 ≤ m
    · by_cases h3 : m ≤ n - a
      · have hB : hasB n a m = true := by simp [hasB, h1, h2, h3]
        have HB := hide hB
        clear hB
        go_enter Try.func51, Try.ntmps51
        go_wp2
        go_ret
        exact ⟨by rw [HB.out]; rfl, rfl⟩
      · have hB : hasB n a m = false := by simp [hasB, h3]
        have HB := hide hB
        clear hB
        go_enter Try.func51, Try.ntmps51
        go_wp2
        go_ret
        exact ⟨by rw [HB.out]; rfl, rfl⟩
    · have hB : hasB n a m = false := by simp [hasB, h2]
      have HB := hide hB
      clear hB
      go_enter Try.func51, Try.ntmps51
      go_wp2
      go_ret
      exact ⟨by rw [HB.out]; rfl, rfl⟩
  · have hB : hasB n a m = false := by simp [hasB, h1]
    have HB := hide hB
    clear hB
    go_enter Try.func51, Try.ntmps51
    go_wp2
    go_ret
    exact ⟨by rw [HB.out]; rfl, rfl⟩

/-- A call is spent: is it done? -/
def DS.spent (s : DS) : DS := if s.left = 0 then { s with off := true } else { s with left := if 0 < s.left then s.left - 1 else s.left, calls := s.calls + 1 }
def DS.errS (s : DS) : Int := if s.left = 0 then 10 else 0

set_option maxHeartbeats 400000 in
theorem spend_at (w : World) (b bs n : Nat) (wv : Value) (s : DS) (h : DevIs w b bs wv n s) (hc : s.calls < 4611686018427387904) :
    Calls Try.prog 28 #[.pointer (some ⟨b, 0, none⟩)] w fun e w' => e = .returned (.int .i64 s.errS) ∧ Kept (fun k => k = b) w w' ∧ DevIs w' b bs wv n s.spent := by
  have h2 : w.cell? ⟨b, 2, none⟩ = some (.int .i64 s.calls) := h.hb.cell 2
  have h3 : w.cell? ⟨b, 3, none⟩ = some (.int .i64 s.left) := h.hb.cell 3
  have h4 : w.cell? ⟨b, 4, none⟩ = some (.bool s.off) := h.hb.cell 4
  have f2 : w.frozen? ⟨b, 2, none⟩ = false := h.hb.frozen 2
  have f3 : w.frozen? ⟨b, 3, none⟩ = false := h.hb.frozen 3
  have f4 : w.frozen? ⟨b, 4, none⟩ = false := h.hb.frozen 4
  have l1 := h.l1
  have l2 := h.l2
  have hap := h.apart
  have Hap := hide hap
  clear hap
  have H := hide h
  clear h
  by_cases hz : s.left = 0
  · have HE : Hid (s.errS = 10) := hide (by simp [DS.errS, hz])
    have HS : Hid (s.spent = { s with off := true }) := hide (by simp [DS.spent, hz])
    have hzb : (s.left == 0) = true := by simp [hz]
    clear hz
    go_enter Try.func28, Try.ntmps28
    go_wp2
    go_ret
    refine ⟨by rw [HE.out]; rfl, Kept.setCell (S := fun k => k = b) w _ _ rfl, ?_⟩
    rw [HS.out]
    have hk := Kept.setCell (S := fun k => k = b) w ⟨b, 4, none⟩ (.bool true) rfl
    exact ⟨H.out.n1, H.out.n2, H.out.hb.setCell 4 _, hk.blk H.out.hs (fun e => Hap.out.1 e.symm), ownsRow_kept H.out.hw hk (fun k e e2 => Hap.out.2.1 (by rw [e, e2])), H.out.hl, H.out.hB, H.out.ok, H.out.l1, H.out.l2⟩
  · have HE : Hid (s.errS = 0) := hide (by simp [DS.errS, hz])
    by_cases hp : 0 < s.left
    · have HS : Hid (s.spent = { s with left := s.left - 1, calls := s.calls + 1 }) := hide (by simp [DS.spent, hz, hp])
      have hzb : (s.left == 0) = false := by simp [hz]
      clear hz
      go_enter Try.func28, Try.ntmps28
      go_wp2
      go_ret
      have hk := (Kept.setCell (S := fun k => k = b) w ⟨b, 3, none⟩ (.int .i64 (s.left - 1)) rfl).trans (Kept.setCell (S := fun k => k = b) _ ⟨b, 2, none⟩ (.int .i64 (s.calls + 1)) rfl) (fun _ _ h => h)
      refine ⟨by rw [HE.out]; rfl, hk, ?_⟩
      rw [HS.out]
      exact ⟨H.out.n1, H.out.n2, (H.out.hb.setCell 3 _).setCell 2 _, hk.blk H.out.hs (fun e => Hap.out.1 e.symm), ownsRow_kept H.out.hw hk (fun k e e2 => Hap.out.2.1 (by rw [e, e2])), H.out.hl, H.out.hB, H.out.ok, by show -1 ≤ s.left - 1; omega, by show s.left - 1 ≤ _; omega⟩
    · have HS : Hid (s.spent = { s with calls := s.calls + 1 }) := hide (by simp [DS.spent, hz, hp])
      have hzb : (s.left == 0) = false := by simp [hz]
      clear hz
      go_enter Try.func28, Try.ntmps28
      go_wp2
      go_ret
      have hk := (Kept.setCell (S := fun k => k = b) w ⟨b, 2, none⟩ (.int .i64 (s.calls + 1)) rfl)
      refine ⟨by rw [HE.out]; rfl, hk, ?_⟩
      rw [HS.out]
      exact ⟨H.out.n1, H.out.n2, H.out.hb.setCell 2 _, hk.blk H.out.hs (fun e => Hap.out.1 e.symm), ownsRow_kept H.out.hw hk (fun k e e2 => Hap.out.2.1 (by rw [e, e2])), H.out.hl, H.out.hB, H.out.ok, H.out.l1, H.out.l2⟩

end Go.Proofs.Ytbbhchmdggfncaa.D


/-
  The calls on a device: New, Size, Waiting, Calls, Off, Limit, Image, Read, Flush, Crash.
-/
namespace Go.Proofs.Ytbbhchmdggfncaa.D
open Go.RowKit
set_option linter.unusedSimpArgs false
set_option linter.unusedVariables false
set_option maxRecDepth 100000

def DS.view (s : DS) : List Value := Go.Proofs.Ytbbhchmdggfncaa.D.view s.ws s.st s.ws.length
/-- A new device. -/
def DS.new (n : Nat) : DS := { st := List.replicate (n * 64) (.int .u8 0), ws := [], calls := 0, left := -1, off := false }
def DS.flushed (s : DS) : DS := if s.off then s else if s.left = 0 then s.spent else { s.spent with st := s.view, ws := [] }
def DS.errF (s : DS) : Int := if s.off then 10 else s.errS
def DS.crashed (s : DS) (ks : List Bool) : DS := { s with st := laidTo (fun i => ks.getD i false) s.ws s.st s.ws.length, ws := [], off := false, left := -1 }

theorem DevAt.step_b {w w' : World} {b bs n : Nat} {wv : Value} {s' : DS} {F : Nat → Prop} (hf : ∀ k, F k ↔ foot b bs wv k) (hk : Kept F w w') (wv' : Value) (hd : DevIs w' b bs wv' n s') (hw : ∀ k, wv'.ownBlock = some k → F k ∨ w.heap.size ≤ k) : DevStep w w' b n s' F :=
  ⟨hk, foot b bs wv', ⟨bs, wv', hd, fun _ => Iff.rfl⟩, fun k h => by
    rcases h with rfl | rfl | e
    · exact .inl ((hf _).2 (.inl rfl))
    · exact .inl ((hf _).2 (.inr (.inl rfl)))
    · exact hw k e⟩

set_option maxHeartbeats 400000 in
theorem new_at (w : World) (n : Nat) (h1 : 1 ≤ n) (h2 : n ≤ 4096) :
    Calls Try.prog 5 #[.int .i64 n] w fun e w' => e = .returned (.tuple #[.pointer (some ⟨w.heap.size + 1, 0, none⟩), .int .i64 0]) ∧ Kept (fun _ => False) w w' ∧
      DevAt w' (w.heap.size + 1) n (DS.new n) (fun k => k = w.heap.size + 1 ∨ k = w.heap.size) := by
  obtain ⟨i70, hi70, hz70, hs70, hb70⟩ := info_parts Try.info85
  have Hi70 := hide hi70
  have Hz70 := hide hz70
  have Hs70 := hide hs70
  have Hb70 := hide hb70
  clear hi70 hz70 hs70 hb70
  go_enter Try.func5, Try.ntmps5
  go_wp2_with ((with_reducible refine aw_make (n := n) 64 (by decide) Try.underlying60 Hi70.out Hz70.out rfl Hs70.out rfl rfl (by rw [Hb70.out]; omega) (by unfold maxLen; omega) ?_); intro w1 hw1 hk1 hz1)
  go_ret2
  refine ⟨rfl, hk1.trans (Kept.alloc (fun _ => False) w1 _) (fun _ _ h => h), w.heap.size, .slice none 0 0, ?_, fun k => ?_⟩
  · have hk := Kept.alloc (fun _ => False) w1 (.cells #[.slice (some ⟨w.heap.size, 0, none⟩) n n, .slice none 0 0, .int .i64 0, .int .i64 (-1), .bool false] 63)
    refine ⟨h1, h2, ?_, hk.blk hw1 (fun h => h), World.ownsRow_nil _ _ _ _, by simp [DS.new]; omega, ?_, by simp [DS.new], by simp [DS.new], by simp [DS.new]⟩
    · rw [← hz1]
      exact Blk.newA w1 #[.slice (some ⟨w.heap.size, 0, none⟩) n n, .slice none 0 0, .int .i64 0, .int .i64 (-1), .bool false] 63
    · intro v hv
      simp [DS.new] at hv
      rw [hv.2]
      exact isByte.zero
  · simp [foot, Value.ownBlock]

set_option maxHeartbeats 400000 in
theorem size_at (w : World) (b n : Nat) (s : DS) (F : Nat → Prop) (h : DevAt w b n s F) : Calls Try.prog 21 #[.pointer (some ⟨b, 0, none⟩)] w fun e w' => e = .returned (.int .i64 n) ∧ w = w' := by
  obtain ⟨bs, wv, hd, hf⟩ := h
  have c : w.cell? ⟨b, 0, none⟩ = some (.slice (some ⟨bs, 0, none⟩) n n) := hd.hb.cell 0
  clear hd hf
  go_enter Try.func21, Try.ntmps21
  go_wp2
  go_ret
  exact ⟨rfl, rfl⟩

theorem hasB_nat (n a m : Nat) (h : a + m ≤ n) : hasB n a m = true := by
  simp [hasB]; omega

set_option maxHeartbeats 400000 in
theorem read_ok (w : World) (b n : Nat) (s : DS) (F : Nat → Prop) (h : DevAt w b n s F) (a m : Nat) (ho : s.off = false) (hh : a + m ≤ n) :
    Calls Try.prog 38 #[.pointer (some ⟨b, 0, none⟩), .int .i64 a, .int .i64 m] w fun e w' => ∃ g, e = .returned (.tuple #[.slice (some ⟨g, 0, none⟩) (m * 64) (m * 64), .int .i64 0]) ∧ Blk w' g (part s.view a m) 5 ∧ Kept (fun _ => False) w w' ∧ w.heap.size ≤ g := by
  obtain ⟨bs, wv, hd, hf⟩ := h
  have hn2 := hd.n2
  have HR := hide (ready_at w b bs n wv s hd)
  have HH := hide (has_at w b bs n wv s hd a m (by omega))
  have HO := hide ho
  have HN := hide (hasB_nat n a m hh)
  have HS := hide (seen_at w b bs n a m wv _ _ _ s.st s.ws hd.n2 hh hd.hb hd.hs hd.hw hd.hl hd.hB hd.ok)
  have hok := laidTo_ok (fun _ => true) n s.ws s.st hd.ok hd.hl hd.hB s.ws.length (Nat.le_refl _)
  have hpl : (part s.view a m).length = 64 * m := part_length _ n a m hok.1 hh
  have hpb : ∀ v ∈ part s.view a m, isByte v := fun v hv => hok.2 v (List.mem_of_mem_drop (List.mem_of_mem_take hv))
  have HP := hide hpl
  have HB := hide hpb
  clear hd hf ho hok hpl hpb
  go_enter Try.func38, Try.ntmps38
  go_wp2_with (first
    | (go_at_call 27; refine HR.out.mono ?_; rintro e w' ⟨rfl, rfl⟩; rw [HO.out]; simp only [Bool.false_eq_true, if_false])
    | (go_at_call 51; refine HH.out.mono ?_; rintro e w' ⟨rfl, rfl⟩; rw [HN.out])
    | (go_at_call 53; refine HS.out.mono ?_; rintro e w1 ⟨rfl, hk1, hb1⟩)
    | (go_at_call 52; refine (join_at w1 w.heap.size m m (part s.view a m) HP.out (by omega) hb1 HB.out).mono ?_; rintro e w2 ⟨rfl, hb2, hk2⟩))
  go_ret2
  exact ⟨_, rfl, hb2, hk1.trans hk2 (fun _ _ h => h), hk1.size⟩

theorem DS.spent_ws (s : DS) : s.spent.ws = s.ws ∧ s.spent.st = s.st := by unfold DS.spent; split <;> exact ⟨rfl, rfl⟩

set_option maxHeartbeats 400000 in
theorem flush1_any (i : Nat) (w : World) : Calls Try.prog 30 #[.int .i64 i] w fun e w' => e = .returned (.bool true) ∧ w = w' := by
  go_enter Try.func30, Try.ntmps30
  go_wp2
  go_ret
  exact ⟨rfl, rfl⟩

set_option maxHeartbeats 400000 in
theorem flush_at (w : World) (b n : Nat) (s : DS) (F : Nat → Prop) (h : DevAt w b n s F) (hc : s.calls < 4611686018427387904) :
    Calls Try.prog 8 #[.pointer (some ⟨b, 0, none⟩)] w fun e w' => e = .returned (.int .i64 s.errF) ∧ DevStep w w' b n s.flushed F := by
  obtain ⟨bs, wv, hd, hf⟩ := h
  have HR := hide (ready_at w b bs n wv s hd)
  have HSp := hide (spend_at w b bs n wv s hd hc)
  have HF := hide hf
  have HD := hide hd
  clear hd hf
  cases ho : s.off
  · have HO := hide ho
    clear ho
    by_cases hz : s.left = 0
    · have HE : Hid (s.errF = 10) := hide (by simp [DS.errF, DS.errS, HO.out, hz])
      have HE2 : Hid (s.errS = 10) := hide (by simp [DS.errS, hz])
      have HFl : Hid (s.flushed = s.spent) := hide (by simp [DS.flushed, HO.out, hz])
      clear hz
      go_enter Try.func8, Try.ntmps8
      go_wp2_with (first
        | (go_at_call 27; refine HR.out.mono ?_; rintro e w' ⟨rfl, rfl⟩; rw [HO.out]; simp only [Bool.false_eq_true, if_false])
        | (go_at_call 28; refine HSp.out.mono ?_; rintro e w1 ⟨rfl, hk1, hd1⟩; rw [HE2.out]))
      go_ret
      refine ⟨by rw [HE.out]; rfl, ?_⟩
      rw [HFl.out]
      exact DevAt.step_b HF.out (hk1.mono (fun k _ e => (HF.out k).2 (.inl e))) wv hd1 (fun k e => .inl ((HF.out k).2 (.inr (.inr e))))
    · have HE : Hid (s.errF = 0) := hide (by simp [DS.errF, DS.errS, HO.out, hz])
      have HE2 : Hid (s.errS = 0) := hide (by simp [DS.errS, hz])
      have HFl : Hid (s.flushed = { s.spent with st := s.view, ws := [] }) := hide (by simp [DS.flushed, HO.out, hz])
      clear hz
      go_enter Try.func8, Try.ntmps8
      go_wp2_with (first
        | (go_at_call 27; refine HR.out.mono ?_; rintro e w' ⟨rfl, rfl⟩; rw [HO.out]; simp only [Bool.false_eq_true, if_false])
        | (go_at_call 28; refine HSp.out.mono ?_; rintro e w1 ⟨rfl, hk1, hd1⟩; rw [HE2.out])
        | (go_at_call 29; refine (settle_33 w1 b bs n wv _ _ _ s.spent.st s.spent.ws (fun _ => true) hd1.n2 hd1.hb hd1.hs hd1.hw hd1.hl hd1.hB hd1.ok (fun i W _ _ => flush1_any i W)).mono ?_; rintro e w2 ⟨rfl, hk2, hb2, hs2⟩))
      go_ret
      refine ⟨by rw [HE.out]; rfl, ?_⟩
      rw [HFl.out]
      have hk : Kept F w w2 := (hk1.mono (T := F) (fun k _ e => (HF.out k).2 (.inl e))).trans hk2 (fun k _ e => (HF.out k).2 (e.elim .inl (fun h => .inr (.inl h))))
      refine DevAt.step_b HF.out hk (.slice none 0 0) ?_ (fun k e => by simp [Value.ownBlock] at e)
      have hv : laidTo (fun _ => true) s.spent.ws s.spent.st s.spent.ws.length = s.view := by rw [s.spent_ws.1, s.spent_ws.2]; rfl
      rw [hv] at hs2
      have hok := laidTo_ok (fun _ => true) n s.ws s.st HD.out.ok HD.out.hl HD.out.hB s.ws.length (Nat.le_refl _)
      exact ⟨hd1.n1, hd1.n2, hb2, hs2, World.ownsRow_nil _ _ _ _, hok.1, hok.2, fun p hp => by simp at hp, hd1.l1, hd1.l2⟩
  · have HO := hide ho
    clear ho
    have HE : Hid (s.errF = 10) := hide (by simp [DS.errF, HO.out])
    have HFl : Hid (s.flushed = s) := hide (by simp [DS.flushed, HO.out])
    go_enter Try.func8, Try.ntmps8
    go_wp2_with (go_at_call 27; refine HR.out.mono ?_; rintro e w' ⟨rfl, rfl⟩; rw [HO.out]; simp only [if_true])
    go_ret
    refine ⟨by rw [HE.out]; rfl, ?_⟩
    rw [HFl.out]
    exact DevStep.refl ⟨bs, wv, HD.out, HF.out⟩

/-- A slice of bools that lies outside S. -/
def keepIs (w : World) (kv : Value) (ks : List Bool) (S : Nat → Prop) : Prop :=
  ∃ ao cap, kv = .slice ao ks.length cap ∧ ks.length ≤ 9223372036854775807 ∧ ∀ i, i < ks.length → ∃ kb ko, ao = some ⟨kb, ko, none⟩ ∧ w.cell? ⟨kb, ko + i, none⟩ = some (.bool (ks.getD i false)) ∧ ¬ S kb

theorem _root_.Go.Proofs.Ytbbhchmdggfncaa.Kept.cell {S : Nat → Prop} {w w' : World} (h : Kept S w w') {a : Addr} {v : Value} (hc : w.cell? a = some v) (hn : ¬ S a.block) : w'.cell? a = some v :=
  (World.cell?_of_block (h.block a.block (World.block_lt_of_cell? w a hc) hn)).trans hc

theorem keepIs.kept {w w' : World} {kv : Value} {ks : List Bool} {S T : Nat → Prop} (h : keepIs w kv ks S) (hk : Kept T w w') (hT : ∀ k, k < w.heap.size → T k → S k) : keepIs w' kv ks S := by
  obtain ⟨ao, cap, h1, h2, h3⟩ := h
  refine ⟨ao, cap, h1, h2, fun i hi => ?_⟩
  obtain ⟨kb, ko, e1, e2, e3⟩ := h3 i hi
  exact ⟨kb, ko, e1, hk.cell e2 (fun t => e3 (hT kb (World.block_lt_of_cell? w _ e2) t)), e3⟩

set_option maxHeartbeats 400000 in
theorem crash1_any (i kb : Nat) (w : World) (kv : Value) (ks : List Bool) (S : Nat → Prop) (hb : Blk w kb [kv] 23) (hk : keepIs w kv ks S) (hi : i ≤ 9223372036854775807) :
    Calls Try.prog 34 #[.int .i64 i, .pointer (some ⟨kb, 0, none⟩)] w fun e w' => e = .returned (.bool (ks.getD i false)) ∧ w = w' := by
  obtain ⟨ao, cap, rfl, hlen, h3⟩ := hk
  have c : w.cell? ⟨kb, 0, none⟩ = some (.slice ao ks.length cap) := hb.cell 0
  clear hb
  by_cases hlt : i < ks.length
  · obtain ⟨kb2, ko, rfl, e2, _⟩ := h3 i hlt
    have H3 := hide h3
    clear h3
    obtain ⟨v, hv⟩ : ∃ v, ks.getD i false = v := ⟨_, rfl⟩
    rw [hv] at e2 ⊢
    have HV := hide hv
    clear hv
    go_enter Try.func34, Try.ntmps34
    go_wp2
    go_ret
    exact ⟨rfl, rfl⟩
  · have HV : Hid (ks.getD i false = false) := hide (by simp [List.getD, List.getElem?_eq_none (show ks.length ≤ i by omega)])
    clear h3
    go_enter Try.func34, Try.ntmps34
    go_wp2
    go_ret
    exact ⟨by rw [HV.out]; rfl, rfl⟩

set_option maxHeartbeats 1000000 in
theorem crash_at (w : World) (b n : Nat) (s : DS) (F : Nat → Prop) (h : DevAt w b n s F) (kv : Value) (ks : List Bool) (hkeep : keepIs w kv ks F) :
    Calls Try.prog 10 #[.pointer (some ⟨b, 0, none⟩), kv] w fun e w' => e = .returned (.tuple #[]) ∧ DevStep w w' b n (s.crashed ks) F := by
  have hlt := h.lt
  obtain ⟨bs, wv, hd, hf⟩ := h
  have HK := hide hkeep
  obtain ⟨ao, kcap, rfl, _⟩ := hkeep
  have hk1 := Kept.alloc (fun _ => False) w (.cells #[.slice ao ks.length kcap] 23)
  have hd1 := hd.kept hk1 (fun _ _ h => h)
  have hbx : Blk (w.alloc (.cells #[.slice ao ks.length kcap] 23)) w.heap.size [.slice ao ks.length kcap] 23 := Blk.newA w _ 23
  have hkp1 := HK.out.kept (w' := w.alloc (.cells #[.slice ao ks.length kcap] 23)) hk1 (fun _ _ h => h.elim)
  have hap := hd.apart
  have hsl : bs < w.heap.size := hd.hs.lt
  have hfs : F bs := (hf bs).2 (.inr (.inl rfl))
  have hset := settle_30 (w.alloc (.cells #[.slice ao ks.length kcap] 23)) b bs n wv _ _ _ s.st s.ws (fun i => ks.getD i false) w.heap.size hd1.n2 hd1.hb hd1.hs hd1.hw hd1.hl hd1.hB hd1.ok
    (fun i W hi hW => crash1_any i w.heap.size W _ ks F (hW.blk hbx (fun e => by omega)) (hkp1.kept hW (fun k _ e => by rw [e]; exact hfs)) (by
      rcases hd1.hw.2 with ⟨_, hz⟩ | ⟨g, cap, cur, _, _, _, h1, h2, _⟩
      · omega
      · unfold maxLen at h2; omega))
  have HSet := hide hset
  have HF := hide hf
  have HD := hide hd
  clear hd hf hlt HK hk1 hd1 hbx hkp1 hset
  go_enter Try.func10, Try.ntmps10
  go_wp2_with (go_at_call 29; refine HSet.out.mono ?_; rintro e w2 ⟨rfl, hk2, hb2, hs2⟩; have c3 : w2.cell? ⟨b, 3, none⟩ = some (.int .i64 s.left) := hb2.cell 3; have c4 : w2.cell? ⟨b, 4, none⟩ = some (.bool s.off) := hb2.cell 4; have f3 := hb2.frozen 3; have f4 := hb2.frozen 4)
  go_end0
  refine ⟨rfl, ?_⟩
  have hk34 := (Kept.setCell (S := fun k => k = b) w2 ⟨b, 4, none⟩ (.bool false) rfl).trans (Kept.setCell (S := fun k => k = b) _ ⟨b, 3, none⟩ (.int .i64 (-1)) rfl) (fun _ _ h => h)
  have hk : Kept F w ((w2.setCell ⟨b, 4, none⟩ (.bool false)).setCell ⟨b, 3, none⟩ (.int .i64 (-1))) := by
    refine (((Kept.alloc F w (.cells #[.slice ao ks.length kcap] 23)).trans hk2 (fun k _ e => ?_)).trans hk34 (fun k _ e => ?_))
    · exact (HF.out k).2 (e.elim .inl (fun h => .inr (.inl h)))
    · exact (HF.out k).2 (.inl e)
  refine DevAt.step_b HF.out hk (.slice none 0 0) ?_ (fun k e => by simp [Value.ownBlock] at e)
  have hok := laidTo_ok (fun i => ks.getD i false) n s.ws s.st HD.out.ok HD.out.hl HD.out.hB s.ws.length (Nat.le_refl _)
  exact ⟨HD.out.n1, HD.out.n2, (hb2.setCell 4 _).setCell 3 _, hk34.blk hs2 (fun e => hap.1 e.symm), World.ownsRow_nil _ _ _ _, hok.1, hok.2, fun p hp => by simp [DS.crashed] at hp, by simp [DS.crashed], by simp [DS.crashed]⟩

end Go.Proofs.Ytbbhchmdggfncaa.D


/-
  dev.split: an iterator over the sectors of some bytes.
-/
namespace Go.Proofs.Ytbbhchmdggfncaa.D
open Go.RowKit Go.Shelf
set_option linter.unusedSimpArgs false
set_option linter.unusedVariables false
set_option maxRecDepth 100000

attribute [local go_sem] Oper.semAt_some

/-- A sector of some bytes. -/
def sec (B : List Value) (k : Nat) : List Value := (B.drop (64 * k)).take 64
def encS (B : List Value) (m : Nat) (x : Fin m) : Array Value := #[.int .i64 (x.1 : Int), .agg (sec B x.1).toArray]

theorem sec_length (B : List Value) (m k : Nat) (hB : B.length = 64 * m) (hk : k < m) : (sec B k).length = 64 := by simp [sec]; omega
theorem sec_byte (B : List Value) (k : Nat) (hB : ∀ v ∈ B, isByte v) : ∀ v ∈ sec B k, isByte v := fun v hv => hB v (List.mem_of_mem_drop (List.mem_of_mem_take hv))

/-- Below n₀ all but the blocks of X are as they were. -/
def KpX (n₀ : Nat) (X : Nat → Prop) (W W' : World) : Prop := W.heap.size ≤ W'.heap.size ∧ ∀ k, k < n₀ → ¬ X k → W'.heap[k]? = W.heap[k]?
theorem KpX.refl (n₀ : Nat) (X : Nat → Prop) (W : World) : KpX n₀ X W W := ⟨Nat.le_refl _, fun _ _ _ => rfl⟩
theorem KpX.trans {n₀ : Nat} {X : Nat → Prop} {A B C : World} (h : KpX n₀ X A B) (k : KpX n₀ X B C) : KpX n₀ X A C := ⟨Nat.le_trans h.1 k.1, fun i hi hx => (k.2 i hi hx).trans (h.2 i hi hx)⟩
theorem KpX.of_kept {n₀ : Nat} {X S : Nat → Prop} {A B : World} (h : Kept S A B) (hn : n₀ ≤ A.heap.size) (hS : ∀ k, k < n₀ → S k → X k) : KpX n₀ X A B := ⟨h.size, fun k hk hx => h.block k (by omega) (fun hs => hx (hS k hk hs))⟩
theorem KpX.blk {n₀ : Nat} {X : Nat → Prop} {A B : World} (h : KpX n₀ X A B) {b : Nat} {L : List Value} {t : TypeId} (hb : Blk A b L t) (hn : b < n₀) (hx : ¬ X b) : Blk B b L t := (h.2 b hn hx).trans hb
theorem KpX.cells {n₀ : Nat} {X : Nat → Prop} {A B : World} (h : KpX n₀ X A B) {b so : Nat} {M : List Value} (hb : Cells A b so M) (hn : b < n₀) (hx : ¬ X b) : Cells B b so M :=
  fun j v hj => (World.cell?_of_block (h.2 b hn hx)).trans (hb j v hj)


theorem finRange_take_succ (m k : Nat) (h : k < m) : (List.finRange m).take (k + 1) = (List.finRange m).take k ++ [⟨k, h⟩] := by
  rw [List.take_succ_eq_append_getElem (by simpa using h)]
  simp

set_option maxRecDepth 100000 in
set_option maxHeartbeats 2000000 in
theorem split1_in (n : Nat) (l Bs n₀ m cap : Nat) (ao : Option Addr) (B : List Value) (X : Nat → Prop) (hB : B.length = 64 * m) (hBb : ∀ v ∈ B, isByte v) (hm : m ≤ 4096) (hcap : 64 * m ≤ cap) (hBs : Bs < n₀) (hXs : ¬ X Bs)
    (J Jx : List (Fin m) → World → Prop) (W : World) (hn₀ : n₀ ≤ W.heap.size) (hJ : AbidesFrom W.heap.size J)
    (hY : ∀ pre x W, J pre W → pre.length < m → YieldAt Fence.wide (n - 1) Try.prog l (encS B m x) W fun e W' =>
      (e = .returned (.bool true) ∧ J (pre ++ [x]) W' ∧ KpX n₀ X W W') ∨ (e = .returned (.bool false) ∧ Jx (pre ++ [x]) W'))
    (hbox : Blk W Bs [.slice ao (64 * m) cap] 22) (hsrc : 0 < m → ∃ sb so, ao = some ⟨sb, so, none⟩ ∧ Cells W sb so B ∧ sb < n₀ ∧ ¬ X sb) (h0 : J [] W) :
    CallsIn Fence.wide n Try.prog 64 #[.func (.yield l) #[] #[], .pointer (some ⟨Bs, 0, none⟩)] W fun e W' => (∃ v, e = .returned v) ∧
      ((∃ ys, ys = List.finRange m ∧ J ys W') ∨ (∃ pre, True ∧ Jx pre W')) := by
  obtain ⟨i5, hi5, hz5, hs5, hb5⟩ := info_parts Try.info5
  have Hi5 := hide hi5
  have Hs5 := hide hs5
  obtain ⟨i70, hi70, hz70, hs70, hb70⟩ := info_parts Try.info85
  have Hi70 := hide hi70
  have Hz70 := hide hz70
  have HBl := hide hB
  have HBb := hide hBb
  have HJ := hide hJ
  have HY := hide hY
  have HSrc := hide hsrc
  have H0 := hide h0
  have c : W.cell? ⟨Bs, 0, none⟩ = some (.slice ao (64 * m) cap) := hbox.cell 0
  clear hi5 hz5 hs5 hb5 hi70 hz70 hs70 hb70 hB hBb hJ hY hsrc h0
  have hq : ((64 * m : Nat) : Int) / 64 = (m : Int) := by omega
  refine callsIn_of_wp Try.func64 rfl trivial ?_ rfl
  simp only [Try.ntmps64, List.size_toArray, List.length_cons, List.length_nil, Nat.reduceAdd, Nat.reduceSub, Array.replicate_succ, Array.replicate_zero, List.push_toArray, List.append_toArray, List.nil_append, List.cons_append]
  gi_wp2
  gi_loopw [8] (fun i wr => ∃ k : Nat, k ≤ m ∧ i = .int .i64 k ∧ J ((List.finRange m).take k) wr ∧ KpX n₀ X W wr)
    (fun i _ => m - (intOf i).toNat)
  case atStart => exact ⟨0, Nat.zero_le _, rfl, H0.out, KpX.refl _ _ _⟩
  case round =>
    obtain ⟨k, hk, rfl, hJs, hkp⟩ := hrel
    have HJs := hide hJs
    clear hJs c
    by_cases hlt : k < m
    · obtain ⟨sb, so, rfl, hsrc, hsn, hsx⟩ := HSrc.out (by omega)
      have hboxr := hkp.blk hbox hBs hXs
      have hsrcr := hkp.cells hsrc hsn hsx
      have c : wr.cell? ⟨Bs, 0, none⟩ = some (.slice (some ⟨sb, so, none⟩) (64 * m) cap) := hboxr.cell 0
      gi_wp2_with ((with_reducible refine ai_alloc Hi70.out Hz70.out ?_); intro w2 hw2 hk2 hz2; have Hz2 := hide hz2; clear hz2)
      refine wpIn_wide.2 (region_tail 5 Try.mixed (by kernel_rfl) ?_)
      intro w3 hk3 hz3
      have Hz3 := hide hz3
      clear hz3 c
      have c : w3.cell? ⟨Bs, 0, none⟩ = some (.slice (some ⟨sb, so, none⟩) (64 * m) cap) := (hk3.blk (hk2.blk hboxr (fun h => h)) (fun h => h)).cell 0
      have hsrc3 := (hk3.cells (hk2.cells hsrcr (fun h => h)) (fun h => h)).part (64 * k) 64
      simp only [List.take_succ_cons, List.take_zero, List.drop_succ_cons, List.drop_zero]
      have hw : IntKind.i64.wrap (↑k * 64) = ((64 * k : Nat) : Int) := by rw [IntKind.wrap_i64]; omega
      still_step
      still_step
      still_step
      still_step
      clear hw
      refine st_slice_lo (k := .i64) Try.underlying22 Hi5.out 1 Hs5.out rfl (64 * k) (by simp [Act.eval]) (by omega) (by omega) ?_
      refine wpStill_nil ?_
      rw [Nat.mul_one]
      refine aw_copyC Try.underlying22 Hi5.out 1 Hs5.out rfl rfl 64 (by omega) (hk3.blk hw2 (fun h => h)) hsrc3 (sec_length B m k HBl.out hlt) (by simp [Value.cells]) (fun v hv => (sec_byte B k HBb.out v hv).one) ?_
      intro w4 hw4 hk4 _
      have hs64 := sec_length B m k HBl.out hlt
      rw [put_whole _ _ (by rw [show (List.take 64 (List.drop (64 * k) B)).length = 64 from hs64]; simp [Value.cells])] at hw4
      have hk44 : Kept (fun _ => False) wr w4 := ((hk2.trans hk3 (fun _ _ h => h)).trans hk4 (fun i hi h => by omega))
      have hJ4 := HJ.out _ wr w4 none HJs.out hk44.grown (fun r e => by cases e)
      obtain ⟨fn, tmps, assign, body, hy, hR⟩ := HY.out _ ⟨k, hlt⟩ w4 hJ4 (by simp; omega)
      have HR := hide hR
      have hy' : (Instr.yield l #[.int .i64 (k : Int), .agg (sec B k).toArray]).run Try.prog w4 = .ok (.round l fn tmps assign body) w4 := hy
      clear hy hR
      have hw4' : Blk w4 wr.heap.size (sec B k) 85 := hw4
      have HM : Hid (((sec B k).drop 0).take 64 = sec B k) := hide (by rw [List.drop_zero]; exact List.take_of_length_le (Nat.le_of_eq hs64))
      have HL : Hid (0 + 64 ≤ (sec B k).length) := hide (by rw [hs64]; decide)
      obtain ⟨M, hMe⟩ : ∃ M, M = sec B k := ⟨_, rfl⟩
      rw [← hMe] at hw4' HM HL hy'
      clear hMe hs64 hw4 c hsrc3 hsrcr hboxr hk3 hk2 hw2
      simp only [wpList]
      gi_wp2_with ((with_reducible refine ai_load Try.agg85 rfl hw4' HL.out HM.out ?_))
      refine ⟨fun e => (by cases e), HR.out.mono ?_⟩
      have hkp4 : KpX n₀ X W w4 := hkp.trans (KpX.of_kept hk44 (Nat.le_trans hn₀ hkp.1) (fun _ _ h => h.elim))
      have HJ' : Hid ((List.finRange m).take (k + 1) = (List.finRange m).take k ++ [⟨k, hlt⟩]) := hide (finRange_take_succ m k hlt)
      rintro e W5 (⟨rfl, hJ5, hk5⟩ | ⟨rfl, hJx5⟩)
      · have HJ5 := hide hJ5
        clear hJ5 hy' hw4' hk4 hk44
        gi_wp2
        go_roundw
        case rel => exact ⟨k + 1, by omega, by simp, by rw [HJ'.out]; exact HJ5.out, hkp4.trans hk5⟩
        case measure => simp [intOf]; omega
      · have HJ5 := hide hJx5
        clear hJx5 hy' hw4' hk4 hk44
        gi_wp2
        refine bodyPost_ret (results_none rfl _ _ _) rfl ?_
        exact ⟨⟨_, rfl⟩, .inr ⟨_, trivial, HJ5.out⟩⟩
    · obtain rfl : k = m := by omega
      gi_wp2
      go_end0
      refine ⟨⟨_, rfl⟩, .inl ⟨_, rfl, ?_⟩⟩
      have := HJs.out
      rwa [List.take_of_length_le (by simp)] at this

end Go.Proofs.Ytbbhchmdggfncaa.D
