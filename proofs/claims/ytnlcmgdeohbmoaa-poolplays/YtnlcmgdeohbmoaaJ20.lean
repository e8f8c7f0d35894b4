/-
  What a device is in memory, and as plain data.
-/
import Derived.Test.YtnlcmgdeohbmoaaJ19
namespace Go.Proofs.Ytnlcmgdeohbmoaa.D
open Go.RowKit
set_option linter.unusedSimpArgs false
set_option linter.unusedVariables false
set_option maxRecDepth 100000

/-- A device as data: what stays (64 bytes a sector), what waits (a sector's place and its bytes), calls, calls left, off. -/
structure DS where
  st : List Value
  ws : List (Nat × List Value)
  calls : Nat
  left : Int
  off : Bool

def flat (ws : List (Nat × List Value)) : List Value := ws.flatMap fun p => .int .i64 p.1 :: p.2

def okWait (n : Nat) (p : Nat × List Value) : Prop := p.1 < n ∧ p.2.length = 64 ∧ ∀ v ∈ p.2, isByte v

theorem flat_length (n : Nat) : ∀ ws : List (Nat × List Value), (∀ p ∈ ws, okWait n p) → (flat ws).length = ws.length * 65
  | [], _ => rfl
  | p :: ws, h => by
    have := flat_length n ws (fun q hq => h q (List.mem_cons_of_mem _ hq))
    have h2 := (h p List.mem_cons_self).2.1
    simp only [flat, List.flatMap_cons, List.length_append, List.length_cons] at this ⊢
    omega

theorem flat_at (n : Nat) : ∀ (ws : List (Nat × List Value)), (∀ p ∈ ws, okWait n p) → ∀ (k : Nat) (p : Nat × List Value), ws[k]? = some p → ((flat ws).drop (k * 65)).take 65 = .int .i64 p.1 :: p.2
  | [], _, k, p, hp => by simp at hp
  | q :: ws, h, 0, p, hp => by
    simp at hp; subst hp
    have h2 := (h q List.mem_cons_self).2.1
    simp only [flat, List.flatMap_cons, Nat.zero_mul, List.drop_zero]
    rw [List.take_append_of_le_length (by simp; omega), List.take_of_length_le (by simp; omega)]
  | q :: ws, h, k + 1, p, hp => by
    have h2 := (h q List.mem_cons_self).2.1
    have := flat_at n ws (fun q hq => h q (List.mem_cons_of_mem _ hq)) k p (by simpa using hp)
    rw [← this]
    simp only [flat, List.flatMap_cons]
    rw [List.drop_append, List.drop_eq_nil_of_le (by simp; omega), List.nil_append]
    congr 2
    simp only [List.length_cons, h2]
    omega

/-- What stays when of the first k that wait those stay of which kf says so. -/
def laidTo (kf : Nat → Bool) (ws : List (Nat × List Value)) (st : List Value) (k : Nat) : List Value :=
  (List.range k).foldl (fun s i => match ws[i]? with | some p => if kf i then put s (64 * p.1) p.2 else s | none => s) st

theorem laidTo_zero (kf : Nat → Bool) (ws : List (Nat × List Value)) (st : List Value) : laidTo kf ws st 0 = st := rfl
theorem laidTo_succ (kf : Nat → Bool) (ws : List (Nat × List Value)) (st : List Value) (k : Nat) (p : Nat × List Value) (h : ws[k]? = some p) :
    laidTo kf ws st (k + 1) = if kf k then put (laidTo kf ws st k) (64 * p.1) p.2 else laidTo kf ws st k := by
  simp [laidTo, List.range_succ, h]

theorem put_byte (L : List Value) (off : Nat) (M : List Value) (h : ∀ v ∈ L, isByte v) (h2 : ∀ v ∈ M, isByte v) : ∀ v ∈ put L off M, isByte v := by
  intro v hv
  simp only [put, List.mem_append] at hv
  rcases hv with (hv | hv) | hv
  · exact h v (List.mem_of_mem_take hv)
  · exact h2 v hv
  · exact h v (List.mem_of_mem_drop hv)

theorem laidTo_ok (kf : Nat → Bool) (n : Nat) (ws : List (Nat × List Value)) (st : List Value) (hw : ∀ p ∈ ws, okWait n p) (hl : st.length = 64 * n) (hb : ∀ v ∈ st, isByte v) :
    ∀ k, k ≤ ws.length → (laidTo kf ws st k).length = 64 * n ∧ ∀ v ∈ laidTo kf ws st k, isByte v
  | 0, _ => ⟨hl, hb⟩
  | k + 1, hk => by
    obtain ⟨h1, h2⟩ := laidTo_ok kf n ws st hw hl hb k (by omega)
    have hp : ws[k]? = some ws[k] := List.getElem?_eq_getElem (by omega)
    have ho := hw ws[k] (List.getElem_mem _)
    rw [laidTo_succ kf ws st k _ hp]
    split
    · exact ⟨by rw [length_put _ _ _ (by rw [h1, ho.2.1]; have := ho.1; omega)]; exact h1, put_byte _ _ _ h2 ho.2.2⟩
    · exact ⟨h1, h2⟩

end Go.Proofs.Ytnlcmgdeohbmoaa.D

/-
  (*Dev).settle: of what waits just that stays of which the function that is handed in says so; nothing waits any more.
-/
namespace Go.Proofs.Ytnlcmgdeohbmoaa.D
open Go.RowKit
set_option linter.unusedSimpArgs false
set_option linter.unusedVariables false
set_option maxRecDepth 100000

set_option maxHeartbeats 2000000 in
theorem settle_33 (w : World) (b bs n : Nat) (wv c l o : Value) (st : List Value) (ws : List (Nat × List Value)) (kf : Nat → Bool) (hn : n ≤ 4096)
    (hb : Blk w b [.slice (some ⟨bs, 0, none⟩) n n, wv, c, l, o] 72) (hs : Blk w bs st 129) (how : w.ownsRow 0 131 65 wv ws.length (flat ws))
    (hl : st.length = 64 * n) (hB : ∀ v ∈ st, isByte v) (hw : ∀ p ∈ ws, okWait n p)
    (hkeep : ∀ (i : Nat) (W : World), i < ws.length → Kept (fun k => k = bs) w W → Calls Try.prog 61 #[.int .i64 i] W fun e w' => e = .returned (.bool (kf i)) ∧ W = w') :
    Calls Try.prog 46 #[.pointer (some ⟨b, 0, none⟩), .func (.func 61) #[] #[]] w fun e w' => e = .returned (.tuple #[]) ∧ Kept (fun k => k = b ∨ k = bs) w w' ∧
      Blk w' b [.slice (some ⟨bs, 0, none⟩) n n, .slice none 0 0, c, l, o] 72 ∧ Blk w' bs (laidTo kf ws st ws.length) 129 := by
  have hok := laidTo_ok kf n ws st hw hl hB
  have hfl := flat_length n ws hw
  have Hok := hide hok
  have Hfl := hide hfl
  have Hw := hide hw
  have Hkeep := hide hkeep
  have hbbs : b ≠ bs := hb.ne hs (by decide)
  have Hne := hide hbbs
  obtain ⟨i72, hi72, hz72, hs72, hb72⟩ := info_parts Try.info131
  have Hi72 := hide hi72
  have Hz72 := hide hz72
  clear hi72 hz72 hs72 hb72 hok hfl hw hkeep hl hB hbbs
  have c0 : w.cell? ⟨b, 0, none⟩ = some (.slice (some ⟨bs, 0, none⟩) n n) := hb.cell 0
  have c1 : w.cell? ⟨b, 1, none⟩ = some wv := hb.cell 1
  have f1 : w.frozen? ⟨b, 1, none⟩ = false := hb.frozen 1
  rcases how.2 with ⟨rfl, hz⟩ | ⟨g, cap, cur, rfl, _, hg, hnc, hcm, hcs, htk⟩
  · have Hz := hide hz
    go_enter Try.func46, Try.ntmps46
    have hws : ws = [] := List.eq_nil_of_length_eq_zero hz
    subst hws
    go_wp2
    refine wp_loop_rounds 1 ?_
    rw [rounds_succ]
    go_wp2
    go_end0
    refine ⟨rfl, ?_, ?_, ?_⟩
    · exact (Kept.setCell (S := fun k => k = b) w ⟨b, 1, none⟩ _ rfl).mono (fun i _ h => Or.inl h)
    · exact hb.setCell 1 _
    · exact (Kept.setCell (S := fun k => k = b) w ⟨b, 1, none⟩ _ rfl).blk hs (fun h => Hne.out h.symm)
  · have hgb : Blk w g cur.toList 131 := by unfold Blk; simpa using hg
    have hcl : cur.toList.length = cap * 65 := by simpa using hcs
    have Hcl := hide hcl
    have Htk := hide htk
    have hgs : g ≠ bs := hgb.ne hs (by decide)
    have Hgs := hide hgs
    clear hg hcs htk hgs hcl
    have hmx : ws.length ≤ 9223372036854775807 := by unfold maxLen at hcm; omega
    go_enter Try.func46, Try.ntmps46
    go_wp2_with fail
    go_loopw [11] (fun i wr => ∃ k : Nat, k ≤ ws.length ∧ i = .int .i64 k ∧ Kept (fun k => k = bs) w wr ∧ Blk wr bs (laidTo kf ws st k) 129) (fun i _ => ws.length - (intOf i).toNat)
    case atStart => exact ⟨0, Nat.zero_le _, rfl, Kept.refl _ _, hs⟩
    case round =>
      obtain ⟨k, hk, rfl, hkept, hsr⟩ := hrel
      have hbr := hkept.blk hb Hne.out
      have hgr := hkept.blk hgb Hgs.out
      clear c0 c1 f1
      have c0 : wr.cell? ⟨b, 0, none⟩ = some (.slice (some ⟨bs, 0, none⟩) n n) := hbr.cell 0
      have c1 : wr.cell? ⟨b, 1, none⟩ = some (.slice (some ⟨g, 0, none⟩) ws.length cap) := hbr.cell 1
      have f1 : wr.frozen? ⟨b, 1, none⟩ = false := hbr.frozen 1
      by_cases hlt : k < ws.length
      · obtain ⟨p, hp⟩ : ∃ p, ws[k]? = some p := ⟨_, List.getElem?_eq_getElem hlt⟩
        have hpo := Hw.out p (List.mem_of_getElem? hp)
        have hM : (cur.toList.drop (k * 65)).take 65 = .int .i64 p.1 :: p.2 := by
          rw [← flat_at n ws Hw.out k p hp, ← Htk.out, List.drop_take, List.take_take]
          congr 1
          omega
        obtain ⟨M, hMe⟩ : ∃ M, M = Value.int .i64 p.1 :: p.2 := ⟨_, rfl⟩
        rw [← hMe] at hM
        have hM1 : ∀ v ∈ M, v.oneCell' = true := by
          intro v hv
          rw [hMe] at hv
          rcases List.mem_cons.1 hv with rfl | hv
          · rfl
          · exact (hpo.2.2 v hv).one
        have hM2 : M.length = 65 := by rw [hMe]; simp [hpo.2.1]
        have HM1 := hide hM1
        have HM2 := hide hM2
        have HMe := hide hMe
        have HM := hide hM
        have Hp := hide hp
        obtain ⟨hpn, hp64, hpb⟩ := hpo
        have Hp64 := hide hp64
        have Hpb := hide hpb
        clear hM hp hp64 hpb hMe hM1 hM2
        have kw3 : ∀ w3 w2, Kept (fun _ => False) wr w2 → Kept (fun k => k = wr.heap.size) w2 w3 → Kept (fun k => k = bs) w w3 := by
          intro w3 w2 hk2 hk3
          refine (hkept.trans hk2 (fun i _ h => h.elim)).trans hk3 (fun i hi h => ?_)
          have := hkept.size
          omega
        have KW3 := hide kw3
        clear kw3
        have hnloc : ∀ x, x < wr.heap.size → ¬ x = wr.heap.size := fun x hx => by omega
        have Hnl := hide hnloc
        clear hnloc
        cases hkf : kf k
        · go_wp2_with (first
          | ((with_reducible refine aw_load Try.agg131 rfl hgr (by rw [Hcl.out]; omega) HM.out ?_))
          | ((with_reducible refine aw_alloc Hi72.out Hz72.out ?_); intro w2 hw2 hk2 hz2; have Hz2 := hide hz2; clear hz2)
          | ((with_reducible refine aw_store Try.agg131 rfl rfl HM2.out HM1.out hw2 (by simp [Value.cells]) ?_); intro w3 hw3 hk3 hz3; rw [put_whole _ _ (by rw [HM2.out]; simp [Value.cells])] at hw3; have Hz3 := hide hz3; clear hz3)
          | (go_at_call 61; refine (Hkeep.out k w3 hlt (KW3.out w3 w2 hk2 hk3)).mono ?_; rintro e w4 ⟨rfl, rfl⟩))
          have hs3 : Blk w3 bs (laidTo kf ws st (k + 1)) 129 := by
            rw [laidTo_succ kf ws st k p Hp.out, hkf]
            exact hk3.blk (hk2.blk hsr (fun h => h)) (Hnl.out _ hsr.lt)
          go_roundw
          case rel => exact ⟨k + 1, by omega, by go_num, KW3.out w3 w2 hk2 hk3, hs3⟩
          case measure => simp [intOf]; omega
        · go_wp2_with (first
          | ((with_reducible refine aw_load Try.agg131 rfl hgr (by rw [Hcl.out]; omega) HM.out ?_))
          | ((with_reducible refine aw_alloc Hi72.out Hz72.out ?_); intro w2 hw2 hk2 hz2; have Hz2 := hide hz2; clear hz2)
          | ((with_reducible refine aw_store Try.agg131 rfl rfl HM2.out HM1.out hw2 (by simp [Value.cells]) ?_); intro w3 hw3 hk3 hz3; rw [put_whole _ _ (by rw [HM2.out]; simp [Value.cells])] at hw3; have Hz3 := hide hz3; clear hz3)
          | (go_at_call 61; refine (Hkeep.out k w3 hlt (KW3.out w3 w2 hk2 hk3)).mono ?_; rintro e w4 ⟨rfl, rfl⟩))
          refine region_tail 9 Try.mixed (by kernel_rfl) ?_
          intro w4 hk4 hz4
          have Hz4 := hide hz4
          clear hz4
          have hs4 := hk4.blk (hk3.blk (hk2.blk hsr (fun h => h)) (Hnl.out _ hsr.lt)) (fun h => h)
          have hb4 := hk4.blk (hk3.blk (hk2.blk hbr (fun h => h)) (Hnl.out _ hbr.lt)) (fun h => h)
          have hl4 := hk4.blk hw3 (fun h => h)
          have d0 : w4.cell? ⟨b, 0, none⟩ = some (.slice (some ⟨bs, 0, none⟩) n n) := hb4.cell 0
          have d1 : w4.cell? ⟨wr.heap.size, 0, none⟩ = some (.int .i64 p.1) := by rw [hl4.cell 0, HMe.out]; rfl
          simp only [List.take_succ_cons, List.take_zero, List.drop_succ_cons, List.drop_zero]
          still_step
          still_step
          still_step
          still_step
          still_step
          still_step
          still_step
          refine st_load (M := p.2) Try.agg129 rfl hl4 (by rw [HM2.out]; decide) (by rw [HMe.out]; exact List.take_of_length_le (Nat.le_of_eq Hp64.out)) ?_
          still_step
          refine wpStill_nil ?_
          refine aw_store Try.agg129 rfl rfl Hp64.out (fun v hv => (Hpb.out v hv).one) hs4 (by rw [(Hok.out k (by omega)).1]; omega) ?_
          intro w5 hw5 hk5 _
          have hs5 : Blk w5 bs (laidTo kf ws st (k + 1)) 129 := by
            rw [laidTo_succ kf ws st k p Hp.out, hkf, Nat.mul_comm 64]
            simpa using hw5
          have hk55 : Kept (fun k => k = bs) w w5 := ((KW3.out w3 w2 hk2 hk3).trans hk4 (fun i _ h => h.elim)).trans hk5 (fun i _ h => h)
          clear hw5 hs4 hb4 hl4 d0 d1 hk4 hk5 hk3 hk2 hw2 hw3
          go_wp2
          go_roundw
          case rel => exact ⟨k + 1, by omega, by go_num, hk55, hs5⟩
          case measure => simp [intOf]; omega
      · obtain rfl : ws.length = k := by omega
        go_wp2
        go_end0
        refine ⟨rfl, ?_, ?_, ?_⟩
        · exact (hkept.mono (fun i _ h => Or.inr h)).trans (Kept.setCell (S := fun k => k = b) wr ⟨b, 1, none⟩ _ rfl) (fun i _ h => Or.inl h)
        · exact hbr.setCell 1 _
        · exact (Kept.setCell (S := fun k => k = b) wr ⟨b, 1, none⟩ _ rfl).blk hsr (fun h => Hne.out h.symm)

end Go.Proofs.Ytnlcmgdeohbmoaa.D
