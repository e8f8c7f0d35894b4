/-
  A scan: Number, Text, Noughts.
-/
import Derived.Test.YtapoagpkjngjpaaScan
namespace Go.Proofs.Ytapoagpkjngjpaa
open Go.RowKit Go.Shelf
set_option linter.unusedSimpArgs false
set_option linter.unusedVariables false
set_option maxRecDepth 100000

/-- A slice from l on. -/
theorem aw_lo25 {ops : Array Oper} {Q : Exit → Act → World → Prop} {a : Act} {rest : List Oper} {w : World} {dst : Option Tmp} {ty : TypeId} {pos : String} {aft : Array Edge} {x y : Operand} {sb so len cap : Nat} {B : List Nat} (l : Nat) {k : IntKind} (hx : a.eval x = .slice (some ⟨sb, so, none⟩) len cap) (hy : a.eval y = .int k l) (hB : B.length = len) (hs : Src w (.slice (some ⟨sb, so, none⟩) len cap) B) (hl : l ≤ len)
    (h : ∀ so', Src w (.slice (some ⟨sb, so', none⟩) (len - l) (cap - l)) (B.drop l) → wpList Try.prog ops Q rest (a.put dst (.slice (some ⟨sb, so', none⟩) (len - l) (cap - l))) w) : wpList Try.prog ops Q (⟨dst, .slice 24 x (some y) none none, ty, pos, aft, none⟩ :: rest) a w := by
  obtain ⟨i5, hi5, hz5, hs5, hb5⟩ := info_parts Try.info5
  refine aw_slice_any Try.underlying24 hi5 1 hs5 hx l hy hl _ rfl (h _ ?_)
  obtain ⟨bo, c, e, h1, h2, h3, h4⟩ := hs
  cases e
  refine ⟨some ⟨sb, if cap = l then so else so + l * 1, none⟩, cap - l, by simp, by simp; omega, fun x hx => h2 x (List.mem_of_mem_drop hx), fun h0 => ?_, fun h => by cases h⟩
  simp at h0
  obtain ⟨sb', so', e, hc⟩ := h3 (by omega)
  cases e
  have hne : ¬ cap = l := by omega
  rw [if_neg hne]
  refine ⟨_, _, rfl, ?_⟩
  have := hc.part l (B.length - l)
  rw [← BV_drop, List.take_of_length_le (by rw [BV_length]; simp)] at this
  simpa using this

theorem sN_none {B : List Nat} {m : Int} (h : firstN B m = none) : scanNum B 0 m = (0, B, 20) := by simp [scanNum, h]
theorem sN_some {B : List Nat} {m : Int} {n : Nat} (h : firstN B m = some n) : scanNum B 0 m = ((n : Int), B.drop m.toNat, 0) := by simp [scanNum, h]
theorem firstN_some {B : List Nat} {m : Int} {n : Nat} (h : firstN B m = some n) : 1 ≤ m ∧ m ≤ 8 ∧ m ≤ B.length ∧ n = valN (B.take m.toNat) ∧ n < 9223372036854775808 := by
  unfold firstN at h
  split at h
  · rename_i hh
    cases h
    exact ⟨hh.1, hh.2.1, hh.2.2.1, rfl, hh.2.2.2⟩
  · cases h

theorem snum_nil (w : World) (m : Int) : Calls Try.prog 23 #[.pointer none, .int .i64 m] w fun e w' => e = .returned (.int .i64 0) ∧ w = w' := by
  go_enter Try.func23, Try.ntmps23
  go_wp2_with fail
  refine (err_nil w).mono ?_
  rintro e w1 ⟨rfl, rfl⟩
  go_wp2
  go_ret
  exact ⟨rfl, rfl⟩

/-- The error is set. -/
theorem ScanAt.fail {w : World} {s : Nat} {v : Value} {B : List Nat} {E : Int} (h : ScanAt w s v B E) : ScanAt (w.setCell ⟨s, 1, none⟩ (.int .i64 20)) s v B 20 ∧ Kept (fun k => k = s) w (w.setCell ⟨s, 1, none⟩ (.int .i64 20)) := by
  have hk := Kept.setCell (S := fun k => k = s) w ⟨s, 1, none⟩ (.int .i64 20) rfl
  exact ⟨⟨by simpa using h.1.setCell 1 (.int .i64 20), h.2.keptBut hk h.nobyte⟩, hk⟩
/-- What is left is set. -/
theorem ScanAt.go {w : World} {s : Nat} {v : Value} {B C : List Nat} {E : Int} {v' : Value} (h : ScanAt w s v B E) (hs : Src w v' C) : ScanAt (w.setCell ⟨s, 0, none⟩ v') s v' C E ∧ Kept (fun k => k = s) w (w.setCell ⟨s, 0, none⟩ v') := by
  have hk := Kept.setCell (S := fun k => k = s) w ⟨s, 0, none⟩ v' rfl
  exact ⟨⟨by simpa using h.1.setCell 0 v', hs.keptBut hk h.nobyte⟩, hk⟩

set_option maxHeartbeats 2000000 in
theorem snum_at (w : World) (s : Nat) (v : Value) (B : List Nat) (E : Int) (h : ScanAt w s v B E) (hl : B.length ≤ 90000000) (m : Int) :
    Calls Try.prog 23 #[.pointer (some ⟨s, 0, none⟩), .int .i64 m] w fun e w' => ∃ v', e = .returned (.int .i64 (scanNum B E m).1) ∧ ScanAt w' s v' (scanNum B E m).2.1 (scanNum B E m).2.2 ∧ Kept (fun k => k = s) w w' := by
  have HE := hide (err_at w s v B E h)
  by_cases hE : E = 0
  · subst hE
    have HF := hide (first_at w v B h.2 (by omega) m)
    have hc0 := h.1.cell 0
    have hc1 := h.1.cell 1
    have hf0 := h.1.frozen 0
    have hf1 := h.1.frozen 1
    simp at hc0 hc1
    have HH := hide h
    clear h
    cases hfn : firstN B m with
    | none =>
      rw [hfn] at HF
      rw [sN_none hfn]
      clear hfn
      go_enter Try.func23, Try.ntmps23
      go_wp2_with fail
      refine HE.out.mono ?_
      rintro e w1 ⟨rfl, rfl⟩
      go_wp2_with fail
      refine HF.out.mono ?_
      rintro e w1 ⟨rfl, rfl⟩
      simp only [firstV]
      go_wp2
      go_ret
      exact ⟨v, rfl, HH.out.fail.1, HH.out.fail.2⟩
    | some n =>
      obtain ⟨h1, h8, hml, hnv, hn⟩ := firstN_some hfn
      clear hnv
      obtain ⟨q, rfl⟩ : ∃ q : Nat, m = q := ⟨m.toNat, by omega⟩
      rw [hfn] at HF
      rw [sN_some hfn, Int.toNat_natCast]
      obtain ⟨bo, c, e⟩ := HH.out.slice
      subst e
      obtain ⟨bo', c', e, hcap, _, hsrc, _⟩ := HH.out.2
      cases e
      obtain ⟨sb, so, e, _⟩ := hsrc (by omega)
      subst e
      clear hfn hsrc
      go_enter Try.func23, Try.ntmps23
      go_wp2_with fail
      refine HE.out.mono ?_
      rintro e w1 ⟨rfl, rfl⟩
      go_wp2_with fail
      refine HF.out.mono ?_
      rintro e w1 ⟨rfl, rfl⟩
      simp only [firstV]
      go_wp2_with (with_reducible refine stop_slice 24 ?_)
      refine hide ?_
      refine aw_lo25 (B := B) q rfl rfl rfl HH.out.2 (by omega) ?_
      intro so' hs'
      obtain ⟨hg1, hg2⟩ := HH.out.go hs'
      have HG1 := hide hg1
      clear hg1 hs'
      generalize B.length - q = q1 at *
      generalize c - q = q2 at *
      go_wp2
      go_ret
      exact ⟨_, rfl, HG1.out, hg2⟩
  · have HH := hide h
    rw [scanNum_err m hE]
    clear h
    go_enter Try.func23, Try.ntmps23
    go_wp2_with fail
    refine HE.out.mono ?_
    rintro e w1 ⟨rfl, rfl⟩
    go_wp2
    go_ret
    exact ⟨v, rfl, HH.out, Kept.refl _ _⟩

/-- A slice from l to h. -/
theorem aw_mid25 {ops : Array Oper} {Q : Exit → Act → World → Prop} {a : Act} {rest : List Oper} {w : World} {dst : Option Tmp} {ty : TypeId} {pos : String} {aft : Array Edge} {x y z : Operand} {sb so len cap : Nat} {B : List Nat} (l h : Nat) {k j : IntKind} (hx : a.eval x = .slice (some ⟨sb, so, none⟩) len cap) (hy : a.eval y = .int k l) (hz : a.eval z = .int j h) (hB : B.length = len) (hs : Src w (.slice (some ⟨sb, so, none⟩) len cap) B) (hl : l ≤ h) (hh : h ≤ len)
    (hn : ∀ so', Src w (.slice (some ⟨sb, so', none⟩) (h - l) (cap - l)) ((B.drop l).take (h - l)) → wpList Try.prog ops Q rest (a.put dst (.slice (some ⟨sb, so', none⟩) (h - l) (cap - l))) w) : wpList Try.prog ops Q (⟨dst, .slice 24 x (some y) (some z) none, ty, pos, aft, none⟩ :: rest) a w := by
  obtain ⟨i5, hi5, hz5, hs5, hb5⟩ := info_parts Try.info5
  obtain ⟨bo, c, e, h1, h2, h3, h4⟩ := hs
  cases e
  have hr : (execOp a.eval ⟨dst, .slice 24 x (some y) (some z) none, ty, pos, aft, none⟩).run Try.prog w = .ok (.value (.slice (some ⟨sb, if cap = l then so else so + l, none⟩) (h - l) (cap - l))) w := by
    have g1 : (0 : Int) ≤ (h : Int) ∧ (h : Int) ≤ (cap : Int) := by omega
    have g2 : (0 : Int) ≤ (l : Int) ∧ (l : Int) ≤ (h : Int) := by omega
    have g3 : h ≤ cap := by omega
    by_cases hc : cap = l
    · simp [execOp, Instr.sliceAt, run_underlying Try.underlying24, Instr.slice, hx, hy, hz, Instr.sliceBounds, Instr.sliceBound, asIntOf, g1, g2, g3, hl, sizeOf, typeInfo, hi5, hc]
      omega
    · simp [execOp, Instr.sliceAt, run_underlying Try.underlying24, Instr.slice, hx, hy, hz, Instr.sliceBounds, Instr.sliceBound, asIntOf, g1, g2, g3, hl, sizeOf, typeInfo, hi5, hc, hs5, addr_add]
  refine wpList_run rfl hr (hn _ ?_)
  have hlen : ((B.drop l).take (h - l)).length = h - l := by simp; omega
  refine ⟨some ⟨sb, if cap = l then so else so + l, none⟩, cap - l, by rw [hlen], by rw [hlen]; omega, fun x hx => h2 x (List.mem_of_mem_drop (List.mem_of_mem_take hx)), fun h0 => ?_, fun h => by cases h⟩
  rw [hlen] at h0
  obtain ⟨sb', so', e, hc⟩ := h3 (by omega)
  cases e
  have hne : ¬ cap = l := by omega
  rw [if_neg hne]
  refine ⟨_, _, rfl, ?_⟩
  have := hc.part l (h - l)
  rw [← BV_drop, ← BV_take] at this
  exact this

theorem sT_none {B : List Nat} {m : Int} (h : firstN B 2 = none) : scanText B 0 m = ([], B, 20) := by simp [scanText, h]
theorem sT_no {B : List Nat} {m : Int} {n : Nat} (h : firstN B 2 = some n) (h2 : ¬ ((n : Int) ≤ m ∧ n + 2 ≤ B.length)) : scanText B 0 m = ([], B, 20) := by simp only [scanText, h, ne_eq, not_true_eq_false, if_false]; rw [if_neg h2]
theorem sT_some {B : List Nat} {m : Int} {n : Nat} (h : firstN B 2 = some n) (h2 : (n : Int) ≤ m ∧ n + 2 ≤ B.length) : scanText B 0 m = ((B.drop 2).take n, B.drop (2 + n), 0) := by simp only [scanText, h, ne_eq, not_true_eq_false, if_false]; rw [if_pos h2]
theorem sT_err {B : List Nat} {E : Int} (m : Int) (h : E ≠ 0) : scanText B E m = ([], B, E) := by simp [scanText, h]

theorem stext_nil (w : World) (m : Int) : Calls Try.prog 66 #[.pointer none, .int .i64 m] w fun e w' => e = .returned (.slice none 0 0) ∧ w = w' := by
  go_enter Try.func66, Try.ntmps66
  go_wp2_with fail
  refine (err_nil w).mono ?_
  rintro e w1 ⟨rfl, rfl⟩
  go_wp2
  go_ret
  exact ⟨rfl, rfl⟩

set_option maxHeartbeats 2000000 in
theorem stext_at (w : World) (s : Nat) (v : Value) (B : List Nat) (E : Int) (h : ScanAt w s v B E) (hl : B.length ≤ 90000000) (m : Int) :
    Calls Try.prog 66 #[.pointer (some ⟨s, 0, none⟩), .int .i64 m] w fun e w' => ∃ vr v', e = .returned vr ∧ Src w' vr (scanText B E m).1 ∧ ScanAt w' s v' (scanText B E m).2.1 (scanText B E m).2.2 ∧ Kept (fun k => k = s) w w' := by
  have HE := hide (err_at w s v B E h)
  by_cases hE : E = 0
  · subst hE
    have HF := hide (first_at w v B h.2 (by omega) 2)
    have hc0 := h.1.cell 0
    have hc1 := h.1.cell 1
    have hf0 := h.1.frozen 0
    have hf1 := h.1.frozen 1
    simp at hc0 hc1
    have HH := hide h
    clear h
    cases hfn : firstN B 2 with
    | none =>
      rw [hfn] at HF
      rw [sT_none hfn]
      clear hfn
      go_enter Try.func66, Try.ntmps66
      go_wp2_with fail
      refine HE.out.mono ?_
      rintro e w1 ⟨rfl, rfl⟩
      go_wp2_with fail
      refine HF.out.mono ?_
      rintro e w1 ⟨rfl, rfl⟩
      simp only [firstV]
      go_wp2
      go_ret
      exact ⟨_, v, rfl, Src.nil _, HH.out.fail.1, HH.out.fail.2⟩
    | some n =>
      obtain ⟨h1, h8, hml, hnv, hn⟩ := firstN_some hfn
      have hn16 : n < 65536 := by
        have := valN_lt (B.take (2 : Int).toNat) (fun x hx => HH.out.2.lt x (List.mem_of_mem_take hx))
        have e : (B.take (2 : Int).toNat).length = 2 := by simp; omega
        rw [e, ← hnv] at this
        simpa using this
      clear hnv
      rw [hfn] at HF
      obtain ⟨bo, c, e⟩ := HH.out.slice
      subst e
      obtain ⟨bo', c', e, hcap, _, hsrc, _⟩ := HH.out.2
      cases e
      obtain ⟨sb, so, e, _⟩ := hsrc (by omega)
      subst e
      clear hsrc
      have hw2 : IntKind.i64.wrap ((B.length : Int) - 2) = (B.length : Int) - 2 := by rw [IntKind.wrap_i64]; omega
      by_cases hm : (n : Int) ≤ m
      · by_cases hL : n + 2 ≤ B.length
        · rw [sT_some hfn ⟨hm, hL⟩]
          have hw3 : IntKind.i64.wrap (2 + (n : Int)) = ((2 + n : Nat) : Int) := by rw [IntKind.wrap_i64]; omega
          have hm' : ¬ (n : Int) > m := by omega
          have hL' : ¬ (n : Int) > (B.length : Int) - 2 := by omega
          have hL2 : ¬ ((B.length : Int) - 2 < (n : Int)) := by omega
          clear hfn
          go_enter Try.func66, Try.ntmps66
          go_wp2_with fail
          refine HE.out.mono ?_
          rintro e w1 ⟨rfl, rfl⟩
          go_wp2_with fail
          refine HF.out.mono ?_
          rintro e w1 ⟨rfl, rfl⟩
          simp only [firstV]
          go_wp2_with (with_reducible refine stop_slice 24 ?_)
          refine hide ?_
          refine aw_mid25 (B := B) 2 (2 + n) rfl rfl rfl rfl HH.out.2 (by omega) (by omega) ?_
          intro so1 hs1
          rw [show 2 + n - 2 = n by omega] at hs1 ⊢
          have HTl := hide (tell_at w _ _ hs1 0 (by simp; omega))
          clear hs1
          generalize c - 2 = c2 at *
          go_wp2_with fail
          refine HTl.out.mono ?_
          rintro e w2 ⟨vr, rfl, hsr, hk2⟩
          rw [List.replicate_zero, List.append_nil] at hsr
          have HSr := hide hsr
          have HH2 := hide (HH.out.kept hk2)
          have hc0' := HH2.out.1.cell 0
          have hc1' := HH2.out.1.cell 1
          have hf0' := HH2.out.1.frozen 0
          have hf1' := HH2.out.1.frozen 1
          simp at hc0' hc1'
          clear hsr
          go_wp2_with (with_reducible refine stop_slice 24 ?_)
          refine hide ?_
          refine aw_lo25 (B := B) (2 + n) rfl rfl rfl HH2.out.2 (by omega) ?_
          intro so' hs'
          obtain ⟨hg1, hg2⟩ := HH2.out.go hs'
          have HG1 := hide hg1
          have HSr2 := hide (HSr.out.keptBut hg2 HH2.out.nobyte)
          have hkk : Kept (fun k => k = s) w (w2.setCell ⟨s, 0, none⟩ (.slice (some ⟨sb, so', none⟩) (B.length - (2 + n)) (c - (2 + n)))) := (hk2.mono (fun _ _ h => h.elim) : Kept (fun k => k = s) w w2).trans hg2 (fun _ _ h => h)
          clear hg1 hs' hg2
          generalize B.length - (2 + n) = q1 at *
          generalize c - (2 + n) = q2 at *
          go_wp2
          go_ret
          exact ⟨vr, _, rfl, HSr2.out, HG1.out, hkk⟩
        · rw [sT_no hfn (fun h => hL h.2)]
          have hL' : (n : Int) > (B.length : Int) - 2 := by omega
          have hm' : ¬ (n : Int) > m := by omega
          clear hfn
          go_enter Try.func66, Try.ntmps66
          go_wp2_with fail
          refine HE.out.mono ?_
          rintro e w1 ⟨rfl, rfl⟩
          go_wp2_with fail
          refine HF.out.mono ?_
          rintro e w1 ⟨rfl, rfl⟩
          simp only [firstV]
          go_wp2
          go_ret
          exact ⟨_, _, rfl, Src.nil _, HH.out.fail.1, HH.out.fail.2⟩
      · rw [sT_no hfn (fun h => hm h.1)]
        have hm' : (n : Int) > m := by omega
        clear hfn
        go_enter Try.func66, Try.ntmps66
        go_wp2_with fail
        refine HE.out.mono ?_
        rintro e w1 ⟨rfl, rfl⟩
        go_wp2_with fail
        refine HF.out.mono ?_
        rintro e w1 ⟨rfl, rfl⟩
        simp only [firstV]
        go_wp2
        go_ret
        exact ⟨_, _, rfl, Src.nil _, HH.out.fail.1, HH.out.fail.2⟩
  · have HH := hide h
    rw [sT_err m hE]
    clear h
    go_enter Try.func66, Try.ntmps66
    go_wp2_with fail
    refine HE.out.mono ?_
    rintro e w1 ⟨rfl, rfl⟩
    go_wp2
    go_ret
    exact ⟨_, v, rfl, Src.nil _, HH.out, Kept.refl _ _⟩

theorem noughts_nil (w : World) : Calls Try.prog 67 #[.pointer none] w fun e w' => e = .returned (.bool false) ∧ w = w' := by
  go_enter Try.func67, Try.ntmps67
  go_wp2_with fail
  refine (err_nil w).mono ?_
  rintro e w1 ⟨rfl, rfl⟩
  go_wp2
  go_ret
  exact ⟨rfl, rfl⟩

theorem nN_hit {B : List Nat} {k : Nat} (hk : k < B.length) (h : B[k] ≠ 0) (E : Int) : noughtsN B E = false := by
  unfold noughtsN
  rw [Bool.and_eq_false_iff]
  refine .inr ?_
  rw [← Bool.not_eq_true, List.all_eq_true]
  intro h2
  have := h2 _ (List.getElem_mem hk)
  simp at this
  exact h this
theorem nN_all {B : List Nat} (h : ∀ j (hj : j < B.length), B[j] = 0) : noughtsN B 0 = true := by
  unfold noughtsN
  simp only [decide_true, Bool.true_and, List.all_eq_true]
  intro x hx
  obtain ⟨j, hj, rfl⟩ := List.mem_iff_getElem.1 hx
  simp [h j hj]
set_option maxHeartbeats 2000000 in
theorem noughts_at (w : World) (s : Nat) (v : Value) (B : List Nat) (E : Int) (h : ScanAt w s v B E) (hl : B.length ≤ 90000000) :
    Calls Try.prog 67 #[.pointer (some ⟨s, 0, none⟩)] w fun e w' => e = .returned (.bool (noughtsN B E)) ∧ w = w' := by
  have HE := hide (err_at w s v B E h)
  by_cases hE : E = 0
  · subst hE
    have hc0 := h.1.cell 0
    simp at hc0
    obtain ⟨bo, c, rfl⟩ := h.slice
    obtain ⟨bo', c', e, hcap, hB, hsrc, _⟩ := h.2
    cases e
    have HSrc := hide hsrc
    have HB := hide hB
    clear h hB hsrc
    go_enter Try.func67, Try.ntmps67
    go_wp2_with fail
    refine HE.out.mono ?_
    rintro e w1 ⟨rfl, rfl⟩
    go_wp2
    go_loopw [13] (fun i wr => ∃ k : Nat, k ≤ B.length ∧ i = .int .i64 k ∧ w = wr ∧ Hid (∀ j (hj : j < B.length), j < k → B[j] = 0)) (fun i _ => B.length - (intOf i).toNat)
    case atStart => exact ⟨0, by omega, rfl, rfl, hide (fun j hj h => absurd h (by omega))⟩
    case round =>
      obtain ⟨k, hk, rfl, rfl, HZ⟩ := hrel
      by_cases hlt : k < B.length
      · obtain ⟨sb, so, rfl, hc⟩ := HSrc.out (by omega)
        have c0 := hc k _ (BV_get B k hlt)
        have HNZ : Hid (B[k] ≠ 0 → noughtsN B 0 = false) := hide (fun h => nN_hit hlt h 0)
        have HNX : Hid (B[k] = 0 → ∀ j (hj : j < B.length), j < k + 1 → B[j] = 0) := hide (fun h j hj hjk => by
          by_cases e : j = k
          · subst e; exact h
          · exact HZ.out j hj (by omega))
        clear hc
        generalize B[k] = x at *
        by_cases hx : x = 0
        · subst hx
          have HN := hide (HNX.out rfl)
          clear HNZ HNX HZ
          go_wp2
          go_roundw
          case rel => exact ⟨k + 1, by omega, by go_num, trivial, HN⟩
          case measure => simp [intOf]; omega
        · have hx' : ¬ ((x : Int) = 0) := by omega
          have HN := hide (HNZ.out hx)
          clear HNZ HNX HZ
          go_wp2
          go_ret
          exact ⟨by rw [HN.out]; rfl, rfl⟩
      · obtain rfl : k = B.length := by omega
        have HN : Hid (noughtsN B 0 = true) := hide (nN_all (fun j hj => HZ.out j hj hj))
        clear HZ
        go_wp2
        go_ret
        exact ⟨by rw [HN.out]; rfl, rfl⟩
  · have HN : Hid (noughtsN B E = false) := hide (by simp [noughtsN, hE])
    clear h
    go_enter Try.func67, Try.ntmps67
    go_wp2_with fail
    refine HE.out.mono ?_
    rintro e w1 ⟨rfl, rfl⟩
    go_wp2
    go_ret
    exact ⟨by rw [HN.out]; rfl, rfl⟩

end Go.Proofs.Ytapoagpkjngjpaa
