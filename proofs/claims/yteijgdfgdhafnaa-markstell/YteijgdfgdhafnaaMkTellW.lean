/-
  MarksTell, walked.
-/
import Derived.Test.YteijgdfgdhafnaaMkPlayW
import Derived.Test.YteijgdfgdhafnaaIOpen
import Derived.Test.YteijgdfgdhafnaaMapI
namespace Go.Proofs.Yteijgdfgdhafnaa
open Go.RowKit Go.Shelf
set_option linter.unusedSimpArgs false
set_option linter.unusedVariables false
set_option maxRecDepth 100000

theorem stop_mu {P : Program} {ops : Array Oper} {Q : Exit → Act → World → Prop} {a : Act} {w : World} {rest : List Oper} {dst : Option Tmp} {ty : TypeId} {pos : String} {aft : Array Edge} {m x v : Operand} (t : TypeId) (h : Hid (wpList P ops Q (⟨dst, .mapUpdate t m x v, ty, pos, aft, none⟩ :: rest) a w)) : wpList P ops Q (⟨dst, .mapUpdate t m x v, ty, pos, aft, none⟩ :: rest) a w := h.out
theorem stop_lk {P : Program} {ops : Array Oper} {Q : Exit → Act → World → Prop} {a : Act} {w : World} {rest : List Oper} {dst : Option Tmp} {ty : TypeId} {pos : String} {aft : Array Edge} {m x : Operand} (t : TypeId) (h : Hid (wpList P ops Q (⟨dst, .lookup t m x false, ty, pos, aft, none⟩ :: rest) a w)) : wpList P ops Q (⟨dst, .lookup t m x false, ty, pos, aft, none⟩ :: rest) a w := h.out
theorem aw_look {P : Program} {ops : Array Oper} {Q : Exit → Act → World → Prop} {a : Act} {w : World} {rest : List Oper} {dst : Option Tmp} {ty : TypeId} {pos : String} {aft : Array Edge} {m x : Operand} {t : TypeId} {mv kv v : Value} (hm : a.eval m = mv) (hx : a.eval x = kv) (hr : (Instr.lookup t mv kv false).run P w = .ok v w)
    (h : wpList P ops Q rest (a.put dst v) w) : wpList P ops Q (⟨dst, .lookup t m x false, ty, pos, aft, none⟩ :: rest) a w := by
  refine wpList_plain rfl fun K' hK' => ?_
  unfold Oper.wp
  simp [execOp, hm, hx, hr, Result.andThen]
  exact hK' _ _ h
theorem zero3 (w : World) : (zeroValue 3).run Try.prog w = .ok (.int .i64 0) w := by kernel_rfl
theorem zero4 (w : World) : (zeroValue 4).run Try.prog w = .ok (.bool false) w := by kernel_rfl
/-- What stands at the head of a round. -/
structure TSt (W wr : World) (b g bt bl : Nat) (k : Nat) (L : List Int) (last : Int → Int) (n : Nat) : Prop where
  told : MkTold 6 L last k
  mm : MkAt wr b g 6 [] L
  lm : ∃ f, MapL Try.prog wr bl 3 (.int .i64 0) f n ∧ ∀ x, f x = .int .i64 (last x)
  tm : MapL Try.prog wr bt 4 (.bool false) (fun _ => .bool false) 0
  hn : n ≤ 30 * k
  hk : Kept (fun _ => False) W wr
  lt : W.heap.size ≤ g ∧ W.heap.size ≤ bl ∧ W.heap.size ≤ bt ∧ bt ≠ bl
theorem TSt.no {W wr w : World} {b g bt bl k : Nat} {L : List Int} {last : Int → Int} {n : Nat} (h : TSt W wr b g bt bl k L last n) (hm : MkAt w b g 6 [] L) (hkp : Kept (fun j => j = g) wr w) : TSt W w b g bt bl (k + 1) L last n := by
  obtain ⟨f, h1, h2⟩ := h.lm
  exact { told := h.told.no, mm := hm, lm := ⟨f, h1.kept hkp (h1.ne h.mm.2.1), h2⟩, tm := h.tm.kept hkp (h.tm.ne h.mm.2.1), hn := by have := h.hn; omega, hk := h.hk.trans hkp (fun i hi e => by have := h.lt.1; omega), lt := h.lt }
/-- The number of the last commit that noted each block, while one more is noted. -/
def lastJ (last : Int → Int) (i : Int) (bs : List Int) (j : Nat) : Int → Int := fun b => if b ∈ bs.take j then i else last b
theorem lastJ_succ {last : Int → Int} {i : Int} {bs : List Int} {j : Nat} (h : j < bs.length) (x : Int) : lastJ last i bs (j + 1) x = if x = bs[j] then i else lastJ last i bs j x := by
  unfold lastJ
  rw [List.take_succ_eq_append_getElem h]
  simp only [List.mem_append, List.mem_singleton]
  by_cases h1 : x = bs[j]
  · rw [if_pos (.inr h1), if_pos h1]
  · rw [if_neg h1]
    by_cases h2 : x ∈ bs.take j
    · rw [if_pos (.inl h2), if_pos h2]
    · rw [if_neg (fun h => h.elim h2 h1), if_neg h2]
/-- Within a round. -/
structure USt (W wr : World) (b g bt bl : Nat) (L1 : List Int) (last : Int → Int) (i : Int) (bs : List Int) (j n : Nat) : Prop where
  mm : MkAt wr b g 6 [] L1
  lm : ∃ f, MapL Try.prog wr bl 3 (.int .i64 0) f n ∧ ∀ x, f x = .int .i64 (lastJ last i bs j x)
  tm : MapL Try.prog wr bt 4 (.bool false) (fun _ => .bool false) 0
  hk : Kept (fun _ => False) W wr
theorem TSt.noted {W wr w : World} {b g bt bl k : Nat} {L : List Int} {last : Int → Int} {n : Nat} (h : TSt W wr b g bt bl k L last n) {L1 : List Int} (hm : MkAt w b g 6 [] L1) (hkp : Kept (fun j => j = g) wr w) (i : Int) (bs : List Int) : USt W w b g bt bl L1 last i bs 0 n := by
  obtain ⟨f, h1, h2⟩ := h.lm
  exact { mm := hm, lm := ⟨f, h1.kept hkp (h1.ne h.mm.2.1), fun x => by rw [h2]; simp [lastJ]⟩, tm := h.tm.kept hkp (h.tm.ne h.mm.2.1), hk := h.hk.trans hkp (fun i hi e => by have := h.lt.1; omega) }
theorem USt.kept {W wr w : World} {b g bt bl : Nat} {L1 : List Int} {last : Int → Int} {i : Int} {bs : List Int} {j n : Nat} (h : USt W wr b g bt bl L1 last i bs j n) (hk : Kept (fun _ => False) wr w) : USt W w b g bt bl L1 last i bs j n := by
  obtain ⟨f, h1, h2⟩ := h.lm
  exact { mm := h.mm.kept hk, lm := ⟨f, h1.kept hk (fun h => h), h2⟩, tm := h.tm.kept hk (fun h => h), hk := h.hk.trans hk (fun _ _ h => h) }
theorem USt.done {W wr w0 : World} {b g bt bl k : Nat} {L : List Int} {last : Int → Int} {n n2 : Nat} {bs : List Int} (h0 : TSt W w0 b g bt bl k L last n) (hall : bs.all (mkIn 6) = true) (h : USt W wr b g bt bl (mkSet L ((k + 1 : Nat) : Int) bs) last ((k + 1 : Nat) : Int) bs bs.length n2) (hn : n2 ≤ 30 * (k + 1)) :
    TSt W wr b g bt bl (k + 1) (mkSet L ((k + 1 : Nat) : Int) bs) (fun b => if b ∈ bs then ((k + 1 : Nat) : Int) else last b) n2 := by
  obtain ⟨f, h1, h2⟩ := h.lm
  exact { told := h0.told.note bs hall, mm := h.mm, lm := ⟨f, h1, fun x => by rw [h2]; unfold lastJ; rw [List.take_of_length_le (Nat.le_refl _)]⟩, tm := h.tm, hn := hn, hk := h.hk, lt := h0.lt }
/-- So many of S are told. -/
def ToldB (wr : World) (bt : Nat) (S : List Int) (j : Nat) : Prop := ∃ f n, MapL Try.prog wr bt 4 (.bool false) f n ∧ n ≤ j ∧ ∀ x, f x = .bool (decide (x ∈ S.take j))
set_option maxHeartbeats 16000000 in
theorem tells_at (W : World) (v : Value) (ls : List (Sl × List Wv)) (hls : LsAt W v ls) (fr : Nat) (hfr : fr < 256) : Calls Try.prog 4 #[v, .int .u8 fr] W fun e w' => e = .returned (.bool true) ∧ Kept (fun _ => False) W w' := by
  obtain ⟨va, vc, rfl⟩ := hls.slice
  have hlm := hls.2.2
  have HL := hide hls
  obtain ⟨i0, hi0, hz0, hs0, hb0⟩ := info_parts Try.info47
  have Hi0 := hide hi0
  have Hz0 := hide hz0
  clear hls hi0 hz0 hs0 hb0
  go_enter Try.func4, Try.ntmps4
  go_wp2_with fail
  refine (first_at W).mono ?_
  rintro e w1 ⟨rfl, hk1⟩
  have HK1 := hide hk1
  clear hk1
  go_wp2_with fail
  refine (mnew_ok w1 6 0 (by decide) (by decide)).mono ?_
  rintro e w2 ⟨b, g, rfl, hk2, hb2, hg2, hm2⟩
  have HK2 := hide (HK1.out.trans hk2 (fun _ _ h => h))
  have HM2 := hide hm2
  have HG := hide (Nat.le_trans HK1.out.size hg2)
  clear hk2 hb2 hg2 hm2 HK1
  go_wp2_with (first
    | (with_reducible refine aw_makeMap (t := 43) ?_)
    | fail)
  intro w3 hw3
  have HT3 : Hid (MapL Try.prog w3 w2.heap.size 4 (.bool false) (fun _ => .bool false) 0) := hide (by rw [hw3]; exact MapL.made _ _ _ _)
  have HK3 : Hid (Kept (fun _ => False) w2 w3) := hide (by rw [hw3]; exact Kept.alloc _ _ _)
  clear hw3
  go_wp2_with (first
    | (with_reducible refine aw_makeMap (t := 44) ?_)
    | fail)
  intro w4 hw4
  have HL4 : Hid (MapL Try.prog w4 w3.heap.size 3 (.int .i64 0) (fun _ => .int .i64 0) 0) := hide (by rw [hw4]; exact MapL.made _ _ _ _)
  have HK4 : Hid (Kept (fun _ => False) w3 w4) := hide (by rw [hw4]; exact Kept.alloc _ _ _)
  clear hw4
  obtain ⟨bt, hbt⟩ : ∃ bt, w2.heap.size = bt := ⟨_, rfl⟩
  obtain ⟨bl, hbl⟩ : ∃ bl, w3.heap.size = bl := ⟨_, rfl⟩
  have HS0 : Hid (TSt W w4 b g bt bl 0 (List.replicate 6 0) (fun _ => 0) 0) := hide
    { told := MkTold.zero 6, mm := (HM2.out.kept HK3.out).kept HK4.out, lm := ⟨_, by rw [← hbl]; exact HL4.out, fun _ => rfl⟩, tm := by rw [← hbt]; exact HT3.out.kept HK4.out (fun h => h), hn := Nat.zero_le _, hk := (HK2.out.trans HK3.out (fun _ _ h => h)).trans HK4.out (fun _ _ h => h),
      lt := ⟨HG.out, by have := HK2.out.size; have := HK3.out.size; omega, by have := HK2.out.size; omega, by have := HT3.out.lt; omega⟩ }
  rw [hbt, hbl]
  clear HT3 HL4 HK2 HK3 HK4 HM2 HG hbt hbl
  go_wp2
  go_loopw [26] (fun i wr => ∃ (k : Nat) (L : List Int) (last : Int → Int) (n : Nat), i = .int .i64 k ∧ k ≤ ls.length ∧ Hid (TSt W wr b g bt bl k L last n)) (fun i _ => ls.length - (intOf i).toNat)
  case atStart => exact ⟨0, _, _, 0, rfl, Nat.zero_le _, HS0⟩
  case round =>
    clear HS0
    obtain ⟨k, L, last, n, rfl, hk, HS⟩ := hrel
    by_cases hlt : k < ls.length
    · obtain ⟨ga, off, rfl, c0, hws⟩ := (HL.out.kept HS.out.hk).get hlt
      have hw0 := HL.out.2.1 ls[k] (List.getElem_mem hlt)
      obtain ⟨ws, hwse⟩ : ∃ ws, ws = ls[k].2 := ⟨_, rfl⟩
      obtain ⟨⟨pa, pn, pc⟩, hs⟩ : ∃ s, s = ls[k].1 := ⟨_, rfl⟩
      rw [← hs, ← hwse] at hws hw0
      rw [← hs] at c0
      simp only at c0
      have hpn : pn = ws.length := by
        obtain ⟨_, _, e⟩ := hws.slice
        simp only [Sl.v, Value.slice.injEq] at e
        exact e.2.1
      subst hpn
      have HB := hide (fun (w' : World) (hk : Kept (fun _ => False) wr w') => (hws.bs).kept hk)
      have HVL : Hid (∀ j, vX (.slice pa ws.length pc) j → 0 < ws.length → j ≠ bl) := hide (fun j hj h0 e => by
        have := hw0.bs.vx j hj h0
        have := HS.out.lt.2.1
        omega)
      have HVX : Hid (∀ j, vX (.slice pa ws.length pc) j → 0 < ws.length → j ≠ g) := hide (fun j hj h0 e => by
        have := hw0.bs.vx j hj h0
        have := HS.out.lt.1
        omega)
      have hwl := hws.2.2
      clear hws hw0 hs hwse
      by_cases h30 : 30 ≤ k
      · have h30I : (30 : Int) ≤ (k : Int) := by omega
        go_wp2
        go_ret
        exact ⟨rfl, HS.out.hk⟩
      · have h30I : ¬ (30 : Int) ≤ (k : Int) := by omega
        by_cases hw30 : 30 < ws.length
        · have hw30I : (30 : Int) < (ws.length : Int) := by omega
          go_wp2
          go_ret
          exact ⟨rfl, HS.out.hk⟩
        · have hw30I : ¬ (30 : Int) < (ws.length : Int) := by omega
          have hw1 : IntKind.i64.wrap ((k : Int) + 1) = ((k + 1 : Nat) : Int) := by rw [IntKind.wrap_i64]; omega
          go_wp2_with fail
          refine (note_at wr b g 6 [] L HS.out.mm ((k + 1 : Nat) : Int) _ ws (HB.out wr (Kept.refl _ _)) HVX.out).mono ?_
          rintro e w5 ⟨rfl, hm5, hk5⟩
          have HER := hide (HS.out.told.err (by omega) (bks ws))
          by_cases he : mkErr L ((k + 1 : Nat) : Int) (bks ws) = 0
          · have hall := HER.out.1 he
            have hnt : mkNote L ((k + 1 : Nat) : Int) (bks ws) = mkSet L ((k + 1 : Nat) : Int) (bks ws) := by unfold mkNote; rw [if_pos he]
            rw [hnt] at hm5
            have HALL := hide hall
            have HU := hide (HS.out.noted hm5 hk5 ((k + 1 : Nat) : Int) (bks ws))
            obtain ⟨L1, hL1⟩ : ∃ L1, mkSet L ((k + 1 : Nat) : Int) (bks ws) = L1 := ⟨_, rfl⟩
            have HL1 := hide hL1
            rw [hL1] at HU
            have HB5 := hide (fun (w' : World) (hk : Kept (fun _ => False) w5 w') => (((HB.out wr (Kept.refl _ _)).keptX hk5 (fun j hj h0 e => HVX.out j hj h0 e)).kept hk))
            rw [he]
            have HN := hide HS.out.hn
            clear hall hnt hm5 hk5 hL1 HER he
            obtain ⟨i1, hi1⟩ : ∃ i1 : Nat, i1 = k + 1 := ⟨_, rfl⟩
            have Hi1 := hide hi1
            go_wp2
            go_loopw [46] (fun q wq => ∃ (j n2 : Nat), q = .int .i64 j ∧ j ≤ ws.length ∧ n2 ≤ 30 * k + j ∧ Hid (USt W wq b g bt bl L1 last ((k + 1 : Nat) : Int) (bks ws) j n2)  ∧ Hid (Kept (fun _ => False) W wq) ∧ Hid (BsAt wq (.slice pa ws.length pc) ws)) (fun q _ => ws.length - (intOf q).toNat)
            case atStart => exact ⟨0, n, rfl, Nat.zero_le _, HN.out, HU, hide HU.out.hk, hide (HB5.out w5 (Kept.refl _ _))⟩
            case round =>
              clear HU HB5
              obtain ⟨j, n2, rfl, hj, hn2, HU, HKq, HBq⟩ := hrel
              by_cases hjt : j < ws.length
              · obtain ⟨gb, of2, rfl, c2, c3⟩ := HBq.out.get hjt
                have hlb : j < (bks ws).length := by rw [bks_len]; exact hjt
                have HSu := hide (fun x => lastJ_succ (last := last) (i := ((k + 1 : Nat) : Int)) hlb x)
                have hp0 : mkIn 6 ws[j].blk = true := List.all_eq_true.1 HALL.out _ (by rw [← bks_get hjt]; exact List.getElem_mem _)
                have hp1 : 0 ≤ ws[j].blk ∧ ws[j].blk < ((6 : Nat) : Int) := of_decide_eq_true hp0
                rw [bks_get hjt] at HSu
                obtain ⟨p, hp⟩ : ∃ p, p = ws[j].blk := ⟨_, rfl⟩
                obtain ⟨⟨qa, qn, qc⟩, hs⟩ : ∃ s, s = ws[j].s := ⟨_, rfl⟩
                rw [← hp] at c2 HSu hp1
                rw [← hs] at c3
                simp only at c3
                have Hp1 := hide hp1
                clear hp hs hlb hp0 hp1
                go_wp2_with (first
                  | ((with_reducible refine aw_alloc (t := 47) (dst := some 12) Hi0.out Hz0.out ?_); intro w6 hw6 hk6 hz6; have Hz6 := hide hz6; clear hz6 c2 c3)
                  | ((with_reducible refine aw_store (M := [.int .i64 p, .slice qa qn qc]) Try.agg47 rfl rfl rfl (by simp [Value.oneCell']) hw6 (by simp [Value.cells]) ?_); intro w7 hw7 hk7 hz7; rw [put_whole _ _ (by simp [Value.cells])] at hw7; have HK67 := hide (hk6.trans hk7 (S := fun _ => False) (fun i hi h => by omega)); have e0 : w7.cell? ⟨wr.heap.size, 0, none⟩ = some (.int .i64 p) := hw7.cell 0; clear hz7 hw6 hk6 hk7 hw7)
                  | (with_reducible refine stop_mu 44 ?_)
                  | fail)
                obtain ⟨f, hf1, hf2⟩ := HU.out.lm
                have HF1 := hide (hf1.kept HK67.out (fun h => h))
                have HF2 := hide hf2
                have HU7 := hide (HU.out.kept HK67.out)
                have hblg : bl ≠ g := hf1.ne HU.out.mm.2.1
                have Hbtl := hide HS.out.lt
                have hblb : bl ≠ b := hf1.ne HU.out.mm.1
                have Hne := hide (And.intro hblg hblb)
                clear hf1 hf2 hblg hblb
                refine hide ?_
                refine aw_mapSet (d := .int .i64 ((k + 1 : Nat) : Int)) (k := p) Try.underlying3 Try.underlying44 rfl rfl rfl HF1.out (by unfold maxLen; omega) (by have := Hp1.out; omega) (plainElem_int Try.underlying3 (WalkArith.wf_i64 (by omega))) ?_
                intro w8 hm8 hk8
                have HU8 : Hid (USt W w8 b g bt bl L1 last ((k + 1 : Nat) : Int) (bks ws) (j + 1) (n2 + 1)) := hide
                  { mm := HU7.out.mm.keptX hk8 (fun e => Hne.out.2 e.symm) (fun e => Hne.out.1 e.symm), lm := ⟨_, hm8, fun x => (by
                      show (if x = p then (Lit.int .i64 ((k + 1 : Nat) : Int)) else f x) = _
                      rw [HSu.out x]
                      by_cases hxp : x = p
                      · rw [if_pos hxp, if_pos hxp]
                      · rw [if_neg hxp, if_neg hxp]; exact HF2.out x)⟩, tm := HU7.out.tm.kept hk8 (fun e => Hbtl.out.2.2.2 e), hk := HU7.out.hk.trans hk8 (fun i hi e => by have := Hbtl.out.2.1; omega) }
                have HB8 : Hid (BsAt w8 (.slice (some ⟨gb, of2, none⟩) ws.length pc) ws) := hide ((HBq.out.kept HK67.out).keptX hk8 (fun jj hj h0 e => HVL.out jj hj h0 e))
                clear hm8 hk8
                try simp only [put_lit, put_none, List.set_cons_succ, List.set_cons_zero]
                go_wp2
                go_roundw
                case rel => exact ⟨j + 1, n2 + 1, by simp, by omega, by omega, HU8, hide HU8.out.hk, HB8⟩
                case measure => simp [intOf]; omega
              · obtain rfl : j = ws.length := by omega
                have HT : Hid (TSt W wr b g bt bl (k + 1) L1 (fun b => if b ∈ bks ws then ((k + 1 : Nat) : Int) else last b) n2) := hide (by
                  have h := HU.out
                  rw [← bks_len, ← HL1.out] at h
                  rw [← HL1.out]
                  exact USt.done HS.out HALL.out h (by omega))
                go_wp2
                go_roundw
                case rel => exact ⟨k + 1, L1, _, n2, by simp, by omega, HT⟩
                case measure => simp [intOf]; omega
          · have hnt : mkNote L ((k + 1 : Nat) : Int) (bks ws) = L := by unfold mkNote; rw [if_neg he]
            rw [hnt] at hm5
            have HT := hide (HS.out.no hm5 hk5)
            obtain ⟨er, her⟩ : ∃ er, mkErr L ((k + 1 : Nat) : Int) (bks ws) = er := ⟨_, rfl⟩
            rw [her] at he ⊢
            clear hm5 hk5 HER her hnt
            go_wp2
            go_roundw
            case rel => exact ⟨k + 1, L, last, n, by simp, by omega, HT⟩
            case measure => simp [intOf]; omega
    · obtain rfl : k = ls.length := by omega
      have HSi := hide (fun x hx => HS.out.told.since (fr : Int) x hx)
      have hwf : IntKind.i64.wrap (fr : Int) = fr := by rw [IntKind.wrap_i64]; omega
      go_wp2_with fail
      refine (since_at wr b g 6 [] L HS.out.mm (fr : Int)).mono ?_
      rintro e w5 ⟨v, rfl, hg5⟩
      obtain ⟨S, hS⟩ : ∃ S, mkSince L (fr : Int) = S := ⟨_, rfl⟩
      have hsl : S.length ≤ 6 := by rw [← hS]; exact Nat.le_trans (since_len _ _) (by rw [HS.out.told.len]; exact Nat.le_refl _)
      have hmem : ∀ x ∈ S, 0 ≤ x ∧ x ≤ 6 := fun x hx => by
        rw [← hS, mkSince_mem] at hx
        obtain ⟨j, y, h1, _, rfl⟩ := hx
        have := (List.getElem?_eq_some_iff.1 h1).1
        rw [HS.out.told.len] at this
        omega
      have Hmem := hide hmem
      have Hsl := hide hsl
      rw [hS] at hg5 HSi
      obtain ⟨oa, oc, rfl⟩ := ownsRow_slice hg5.1
      have HG5 := hide hg5
      obtain ⟨f, hf1, hf2⟩ := HS.out.lm
      have HF1 := hide (hf1.kept hg5.2.2 (fun h => h))
      have HF2 := hide hf2
      have HT5 : Hid (ToldB w5 bt S 0) := hide ⟨_, 0, HS.out.tm.kept hg5.2.2 (fun h => h), Nat.le_refl _, fun x => by simp⟩
      have HK5 := hide (HS.out.hk.trans hg5.2.2 (fun _ _ h => h))
      have HLt := hide HS.out.lt
      have HNb := hide (HS.out.tm.kept hg5.2.2 (fun h => h)).lt
      have HNo : Hid (∀ L t, ¬ Blk w5 bt L t) := hide (fun L t hb => (HS.out.tm.kept hg5.2.2 (fun h => h)).ne hb rfl)
      clear hS hsl hmem hg5 hf1 hf2
      go_wp2
      go_loopw [62] (fun q wq => ∃ j : Nat, q = .int .i64 j ∧ j ≤ S.length ∧ Hid (ToldB wq bt S j) ∧ Hid (MapL Try.prog wq bl 3 (.int .i64 0) f n) ∧ Hid (Kept (fun jj => jj = bt) w5 wq)) (fun q _ => S.length - (intOf q).toNat)
      case atStart => exact ⟨0, rfl, Nat.zero_le _, HT5, HF1, hide (Kept.refl _ _)⟩
      case round =>
        clear HT5 HF1
        obtain ⟨j, rfl, hj, HTq, HFq, HKq⟩ := hrel
        have hsl6 : S.length ≤ 6 := Hsl.out
        by_cases hjs : j < S.length
        · have hnx : ∀ k, (Value.slice oa S.length oc).ownBlock = some k → k ≠ bt := fun k hk e => by
            subst e
            rcases ownsRow_blk HG5.out.1 with ⟨h, _, _⟩ | ⟨g', cap', C', h, hb', _⟩
            · rw [h] at hk; simp [Value.ownBlock] at hk
            · cases h
              simp [Value.ownBlock] at hk
              subst hk
              exact HNo.out _ _ hb'
          have hsr := ownsRow_src (by have := ownsRow_kept HG5.out.1 HKq.out hnx; rw [← ZV_length] at this; exact this)
          rw [ZV_length] at hsr
          obtain ⟨g1, o1, rfl, d1⟩ := srcz hsr hjs
          obtain ⟨x, hx⟩ : ∃ x, S[j] = x := ⟨_, rfl⟩
          have Hx := hide (And.intro hx (Hmem.out S[j] (List.getElem_mem hjs)))
          rw [hx] at d1
          clear hx hsr hnx
          go_wp2_with (first | (with_reducible refine stop_mu 43 ?_) | fail)
          refine hide ?_
          obtain ⟨f2, n2, hm2, hn2, hf2⟩ := HTq.out
          refine aw_mapSet (d := .bool true) (k := x) Try.underlying3 Try.underlying43 rfl rfl rfl hm2 (by have := Hsl.out; unfold maxLen; omega) (by have := Hx.out; omega) (plainElem_bool Try.underlying4 true) ?_
          intro w8 hm8 hk8
          have HT8 : Hid (ToldB w8 bt S (j + 1)) := hide ⟨_, _, hm8, by omega, fun y => by
            rw [List.take_succ_eq_append_getElem hjs, Hx.out.1]
            simp only [List.mem_append, List.mem_singleton]
            by_cases hy : y = x
            · simp [hy]
            · simp only [if_neg hy, hy, or_false]
              exact hf2 y⟩
          have HF8 : Hid (MapL Try.prog w8 bl 3 (.int .i64 0) f n) := hide (HFq.out.kept hk8 (fun e => HLt.out.2.2.2 e.symm))
          have HK8 : Hid (Kept (fun jj => jj = bt) w5 w8) := hide (HKq.out.trans hk8 (fun _ _ h => h))
          clear hm8 hk8 hm2 hn2 hf2
          try simp only [put_lit, put_none, List.set_cons_succ, List.set_cons_zero]
          go_wp2
          go_roundw
          case rel => exact ⟨j + 1, by simp, by omega, HT8, HF8, HK8⟩
          case measure => simp [intOf]; omega
        · obtain rfl : j = S.length := by omega
          obtain ⟨f2, n2, hm2, hn2, hf2⟩ := HTq.out
          have HM2 := hide hm2
          have HF3 : Hid (∀ x, f2 x = .bool (decide (x ∈ S))) := hide (fun x => by rw [hf2, List.take_of_length_le (Nat.le_refl _)])
          have HKw : Hid (Kept (fun _ => False) W wr) := hide (HK5.out.trans HKq.out (fun i hi e => by have := HLt.out.2.2.1; omega))
          clear hm2 hn2 hf2 HTq
          go_wp2
          go_loopw [69] (fun q wq => ∃ i : Nat, q = .int .i64 i ∧ i ≤ 6 ∧ wr = wq) (fun q _ => 6 - (intOf q).toNat)
          case atStart => exact ⟨0, rfl, Nat.zero_le _, rfl⟩
          case round =>
            obtain ⟨i, rfl, hi, rfl⟩ := hrel
            by_cases hi6 : i < 6
            · have hs := HSi.out i hi6
              obtain ⟨c, hc⟩ : ∃ c, last (i : Int) = c := ⟨_, rfl⟩
              obtain ⟨t, ht⟩ : ∃ t, decide ((i : Int) ∈ S) = t := ⟨_, rfl⟩
              have hf := HF2.out (i : Int)
              have hb := HF3.out (i : Int)
              rw [hc] at hf hs
              rw [ht] at hb
              have r1 := HM2.out.lookB Try.underlying3 Try.underlying4 Try.underlying43 (zero4 _) (k := (i : Int)) (by omega) hb
              have r2 := HFq.out.lookI Try.underlying3 Try.underlying44 (zero3 _) (k := (i : Int)) (by omega) hf
              have R1 := hide r1
              have R2 := hide r2
              have hte : t = decide ((fr : Int) < c) := by rw [← ht]; exact decide_eq_decide.2 hs
              clear hf hb hc ht hs r1 r2
              by_cases hfc : (fr : Int) < c
              · rw [decide_eq_true hfc] at hte
                subst hte
                go_wp2_with (first | (with_reducible refine stop_lk 43 ?_) | (with_reducible refine stop_lk 44 ?_) | fail)
                refine hide ?_
                refine aw_look rfl rfl R1.out ?_
                try simp only [put_lit, put_none, List.set_cons_succ, List.set_cons_zero]
                go_wp2_with (first | (with_reducible refine stop_lk 44 ?_) | fail)
                refine hide ?_
                refine aw_look rfl rfl R2.out ?_
                try simp only [put_lit, put_none, List.set_cons_succ, List.set_cons_zero]
                go_wp2
                go_roundw
                case rel => exact ⟨i + 1, by simp, by omega, trivial⟩
                case measure => simp [intOf]; omega
              · rw [decide_eq_false hfc] at hte
                subst hte
                go_wp2_with (first | (with_reducible refine stop_lk 43 ?_) | (with_reducible refine stop_lk 44 ?_) | fail)
                refine hide ?_
                refine aw_look rfl rfl R1.out ?_
                try simp only [put_lit, put_none, List.set_cons_succ, List.set_cons_zero]
                go_wp2_with (first | (with_reducible refine stop_lk 44 ?_) | fail)
                refine hide ?_
                refine aw_look rfl rfl R2.out ?_
                try simp only [put_lit, put_none, List.set_cons_succ, List.set_cons_zero]
                go_wp2
                go_roundw
                case rel => exact ⟨i + 1, by simp, by omega, trivial⟩
                case measure => simp [intOf]; omega
            · obtain rfl : i = 6 := by omega
              go_wp2
              go_ret
              exact ⟨rfl, HKw.out⟩
end Go.Proofs.Yteijgdfgdhafnaa
