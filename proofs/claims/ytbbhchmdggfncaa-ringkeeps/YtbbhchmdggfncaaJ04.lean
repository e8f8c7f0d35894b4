/-
  A pen's Bytes and Padded; a scan: New, Err, Left.
-/
import Derived.Test.YtbbhchmdggfncaaJ03
import Derived.RangeFuncNested
import Derived.RangeFuncBound
import Derived.RangeFuncCalls
import Derived.RangeFuncLeaves
import Derived.Shelf.Abstract
import Derived.OwnWalkIn
import Derived.TacticsInMore
import Derived.LoopNIn
import Derived.LoopIn
import Derived.Test.YtbbhchmdggfncaaJ01
namespace Go.Proofs.Ytbbhchmdggfncaa
open Go.RowKit Go.Shelf
set_option linter.unusedSimpArgs false
set_option linter.unusedVariables false
set_option maxRecDepth 100000

theorem bytes_at (w : World) (p : Nat) (v : Value) (A : List Nat) (hp : PenAt w p v A) (hl : A.length ≤ 90000000) :
    Calls Try.prog 59 #[.pointer (some ⟨p, 0, none⟩)] w fun e w' => ∃ v', e = .returned v' ∧ Src w' v' A ∧ Kept (fun _ => False) w w' := by
  have HT := hide (tell_at w v A hp.2.src 0 (by omega))
  have hc := hp.1.cell 0
  simp at hc
  clear hp
  go_enter Try.func59, Try.ntmps59
  go_wp2_with fail
  refine HT.out.mono ?_
  rintro e w1 ⟨v1, rfl, hs, hk⟩
  have HS := hide hs
  clear hs
  go_wp2
  go_ret
  exact ⟨v1, rfl, by simpa using HS.out, hk⟩
theorem bytes_pn (w0 w : World) (p : Nat) (A : List Nat) (hp : Pn w0 w p A) (hl : A.length ≤ 90000000) :
    Calls Try.prog 59 #[.pointer (some ⟨p, 0, none⟩)] w fun e w' => ∃ v', e = .returned v' ∧ Src w' v' A ∧ Kept (fun _ => False) w w' := by
  obtain ⟨_, _, v, h, _⟩ := hp
  exact bytes_at w p v A h hl

theorem miss_le (l : Nat) {n : Int} (h : n ≤ 1000) : missN l n ≤ 1000 := by
  unfold missN
  split
  · omega
  · split <;> omega
set_option maxHeartbeats 1000000 in
theorem padded_at (w : World) (p : Nat) (v : Value) (A : List Nat) (hp : PenAt w p v A) (hl : A.length ≤ 90000000) (n : Int) (hn : n ≤ 1000) :
    Calls Try.prog 69 #[.pointer (some ⟨p, 0, none⟩), .int .i64 n] w fun e w' => ∃ v', e = .returned v' ∧ Src w' v' (padN A n) ∧ Kept (fun _ => False) w w' := by
  have hmi := miss_le A.length hn
  have HM := hide (missing_at w A.length n (by omega) (by omega))
  have HT := hide (tell_at w v A hp.2.src (missN A.length n) (by omega))
  have HP : Hid (padN A n = A ++ List.replicate (missN A.length n) 0) := hide rfl
  have hc := hp.1.cell 0
  simp at hc
  obtain ⟨bo, c, rfl⟩ := hp.slice
  have hw : IntKind.i64.wrap (2147483647 - (A.length : Int)) = 2147483647 - (A.length : Int) := by rw [IntKind.wrap_i64]; omega
  have hle : ¬ ((missN A.length n : Nat) : Int) > 2147483647 - (A.length : Int) := by omega
  have hle2 : ¬ (2147483647 - (A.length : Int) < ((missN A.length n : Nat) : Int)) := by omega
  clear hp
  generalize missN A.length n = q at *
  go_enter Try.func69, Try.ntmps69
  go_wp2_with fail
  refine HM.out.mono ?_
  rintro e w1 ⟨rfl, rfl⟩
  go_wp2_with fail
  refine HT.out.mono ?_
  rintro e w1 ⟨v1, rfl, hs, hk⟩
  have HS := hide hs
  clear hs
  go_wp2
  go_ret
  exact ⟨v1, rfl, by rw [HP.out]; exact HS.out, hk⟩

/-- A scan at s: what is left (in the slice v), the error. -/
def ScanAt (w : World) (s : Nat) (v : Value) (B : List Nat) (E : Int) : Prop := Blk w s [v, .int .i64 E] 133 ∧ Src w v B
theorem ScanAt.slice {w : World} {s : Nat} {v : Value} {B : List Nat} {E : Int} (h : ScanAt w s v B E) : ∃ bo c, v = .slice bo B.length c := by
  obtain ⟨bo, c, e, _⟩ := h.2
  exact ⟨bo, c, e⟩
theorem ScanAt.kept {w w' : World} {s : Nat} {v : Value} {B : List Nat} {E : Int} (h : ScanAt w s v B E) (hk : Kept (fun _ => False) w w') : ScanAt w' s v B E := ⟨hk.blk h.1 (fun h => h), h.2.kept hk⟩
/-- No byte lies in a scan's block. -/
theorem ScanAt.nobyte {w : World} {s : Nat} {v : Value} {B : List Nat} {E : Int} (h : ScanAt w s v B E) : ∀ k, k = s → ∀ i n, w.cell? ⟨k, i, none⟩ ≠ some (.int .u8 n) := by
  intro k hk i n e
  subst hk
  obtain ⟨bo, c, rfl⟩ := h.slice
  rw [h.1.cell] at e
  match i with
  | 0 => simp at e
  | 1 => simp at e
  | i + 2 => simp at e
theorem built54 (bo : Option Addr) (n c : Nat) : Try.prog.built 133 [(0, .slice bo n c)] = some #[.slice bo n c, .int .i64 0] := by rfl
theorem r_build54 {ρ : Operand → Value} {w : World} {dst : Option Tmp} {ty : TypeId} {pos : String} {aft : Array Edge} {gd : Option (Nat × Bool)} {x : Operand} {bo : Option Addr} {n c : Nat} (hx : ρ x = .slice bo n c) :
    (execOp ρ ⟨dst, .build 133 #[(0, x)], ty, pos, aft, gd⟩).run Try.prog w = .ok (.value (.agg #[.slice bo n c, .int .i64 0])) w := by
  have hr := run_build (P := Try.prog) w 133 #[(0, .slice bo n c)] _ (by simpa using built54 bo n c)
  simp [execOp, hx, hr]

set_option maxHeartbeats 1000000 in
theorem new_at (w : World) (v : Value) (B : List Nat) (hs : Src w v B) (hl : B.length ≤ 90000000) :
    Calls Try.prog 75 #[v] w fun e w' => ∃ s v', e = .returned (.pointer (some ⟨s, 0, none⟩)) ∧ ScanAt w' s v' B 0 ∧ Kept (fun _ => False) w w' ∧ w.heap.size ≤ s := by
  have HT := hide (tell_at w v B hs 0 (by omega))
  clear hs
  go_enter Try.func75, Try.ntmps75
  go_wp2_with fail
  refine HT.out.mono ?_
  rintro e w1 ⟨v1, rfl, hs, hk⟩
  rw [List.replicate_zero, List.append_nil] at hs
  have HS := hide hs
  obtain ⟨bo, c, e, _⟩ := hs
  subst e
  go_wp2_with (with_reducible refine stop_build 133 ?_)
  refine hide ?_
  refine wpList_run rfl (r_build54 rfl) ?_
  refine aw_box (v := .agg #[.slice bo B.length c, .int .i64 0]) rfl ?_
  intro w2 hb hk2 hz
  have HB : Hid (ScanAt w2 w1.heap.size (.slice bo B.length c) B 0) := hide ⟨hb, HS.out.kept hk2⟩
  have hkk := hk.trans hk2 (fun _ _ h => h)
  have hsz := hk.size
  generalize w1.heap.size = s at *
  clear hb hk2 hz
  go_wp2
  go_ret
  exact ⟨s, _, rfl, HB.out, hkk, hsz⟩

theorem err_at (w : World) (s : Nat) (v : Value) (B : List Nat) (E : Int) (h : ScanAt w s v B E) : Calls Try.prog 78 #[.pointer (some ⟨s, 0, none⟩)] w fun e w' => e = .returned (.int .i64 E) ∧ w = w' := by
  have hc := h.1.cell 1
  simp at hc
  clear h
  go_enter Try.func78, Try.ntmps78
  go_wp2
  go_ret
  exact ⟨rfl, rfl⟩
theorem left_at (w : World) (s : Nat) (v : Value) (B : List Nat) (E : Int) (h : ScanAt w s v B E) : Calls Try.prog 79 #[.pointer (some ⟨s, 0, none⟩)] w fun e w' => e = .returned (.int .i64 B.length) ∧ w = w' := by
  have hc := h.1.cell 0
  simp at hc
  obtain ⟨bo, c, rfl⟩ := h.slice
  clear h
  go_enter Try.func79, Try.ntmps79
  go_wp2
  go_ret
  exact ⟨rfl, rfl⟩

end Go.Proofs.Ytbbhchmdggfncaa


/-
  A scan: Number, Text, Noughts.
-/
namespace Go.Proofs.Ytbbhchmdggfncaa
open Go.RowKit Go.Shelf
set_option linter.unusedSimpArgs false
set_option linter.unusedVariables false
set_option maxRecDepth 100000

/-- A slice from l on. -/
theorem aw_lo25 {ops : Array Oper} {Q : Exit → Act → World → Prop} {a : Act} {rest : List Oper} {w : World} {dst : Option Tmp} {ty : TypeId} {pos : String} {aft : Array Edge} {x y : Operand} {sb so len cap : Nat} {B : List Nat} (l : Nat) {k : IntKind} (hx : a.eval x = .slice (some ⟨sb, so, none⟩) len cap) (hy : a.eval y = .int k l) (hB : B.length = len) (hs : Src w (.slice (some ⟨sb, so, none⟩) len cap) B) (hl : l ≤ len)
    (h : ∀ so', Src w (.slice (some ⟨sb, so', none⟩) (len - l) (cap - l)) (B.drop l) → wpList Try.prog ops Q rest (a.put dst (.slice (some ⟨sb, so', none⟩) (len - l) (cap - l))) w) : wpList Try.prog ops Q (⟨dst, .slice 22 x (some y) none none, ty, pos, aft, none⟩ :: rest) a w := by
  obtain ⟨i5, hi5, hz5, hs5, hb5⟩ := info_parts Try.info5
  refine aw_slice_any Try.underlying22 hi5 1 hs5 hx l hy hl _ rfl (h _ ?_)
  obtain ⟨bo, c, e, h1, h2, h3, h4⟩ := hs
  cases e
  refine ⟨some ⟨sb, if cap = l then so else so + l * 1, none⟩, cap - l, by simp, by simp; omega, fun x hx => h2 x (List.mem_of_mem_drop hx), fun h0 => ?_, fun h => by cases h⟩
  simp at h0
  obtain ⟨sb', so', e, hc⟩ := h3 (by omega)
  cases e
  have hne : ¬ cap = l := by omega
  rw [if_neg hne]
  refine ⟨_, _, rfl, ?_⟩
  have := hc.part l (B.length - l)
  rw [← BV_drop, List.take_of_length_le (by rw [BV_length]; simp)] at this
  simpa using this

theorem sN_none {B : List Nat} {m : Int} (h : firstN B m = none) : scanNum B 0 m = (0, B, 20) := by simp [scanNum, h]
theorem sN_some {B : List Nat} {m : Int} {n : Nat} (h : firstN B m = some n) : scanNum B 0 m = ((n : Int), B.drop m.toNat, 0) := by simp [scanNum, h]
theorem firstN_some {B : List Nat} {m : Int} {n : Nat} (h : firstN B m = some n) : 1 ≤ m ∧ m ≤ 8 ∧ m ≤ B.length ∧ n = valN (B.take m.toNat) ∧ n < 9223372036854775808 := by
  unfold firstN at h
  split at h
  · rename_i hh
    cases h
    exact ⟨hh.1, hh.2.1, hh.2.2.1, rfl, hh.2.2.2⟩
  · cases h

/-- The error is set. -/
theorem ScanAt.fail {w : World} {s : Nat} {v : Value} {B : List Nat} {E : Int} (h : ScanAt w s v B E) : ScanAt (w.setCell ⟨s, 1, none⟩ (.int .i64 20)) s v B 20 ∧ Kept (fun k => k = s) w (w.setCell ⟨s, 1, none⟩ (.int .i64 20)) := by
  have hk := Kept.setCell (S := fun k => k = s) w ⟨s, 1, none⟩ (.int .i64 20) rfl
  exact ⟨⟨by simpa using h.1.setCell 1 (.int .i64 20), h.2.keptBut hk h.nobyte⟩, hk⟩
/-- What is left is set. -/
theorem ScanAt.go {w : World} {s : Nat} {v : Value} {B C : List Nat} {E : Int} {v' : Value} (h : ScanAt w s v B E) (hs : Src w v' C) : ScanAt (w.setCell ⟨s, 0, none⟩ v') s v' C E ∧ Kept (fun k => k = s) w (w.setCell ⟨s, 0, none⟩ v') := by
  have hk := Kept.setCell (S := fun k => k = s) w ⟨s, 0, none⟩ v' rfl
  exact ⟨⟨by simpa using h.1.setCell 0 v', hs.keptBut hk h.nobyte⟩, hk⟩

set_option maxHeartbeats 2000000 in
theorem snum_at (w : World) (s : Nat) (v : Value) (B : List Nat) (E : Int) (h : ScanAt w s v B E) (hl : B.length ≤ 90000000) (m : Int) :
    Calls Try.prog 76 #[.pointer (some ⟨s, 0, none⟩), .int .i64 m] w fun e w' => ∃ v', e = .returned (.int .i64 (scanNum B E m).1) ∧ ScanAt w' s v' (scanNum B E m).2.1 (scanNum B E m).2.2 ∧ Kept (fun k => k = s) w w' := by
  have HE := hide (err_at w s v B E h)
  by_cases hE : E = 0
  · subst hE
    have HF := hide (first_at w v B h.2 (by omega) m)
    have hc0 := h.1.cell 0
    have hc1 := h.1.cell 1
    have hf0 := h.1.frozen 0
    have hf1 := h.1.frozen 1
    simp at hc0 hc1
    have HH := hide h
    clear h
    cases hfn : firstN B m with
    | none =>
      rw [hfn] at HF
      rw [sN_none hfn]
      clear hfn
      go_enter Try.func76, Try.ntmps76
      go_wp2_with fail
      refine HE.out.mono ?_
      rintro e w1 ⟨rfl, rfl⟩
      go_wp2_with fail
      refine HF.out.mono ?_
      rintro e w1 ⟨rfl, rfl⟩
      simp only [firstV]
      go_wp2
      go_ret
      exact ⟨v, rfl, HH.out.fail.1, HH.out.fail.2⟩
    | some n =>
      obtain ⟨h1, h8, hml, hnv, hn⟩ := firstN_some hfn
      clear hnv
      obtain ⟨q, rfl⟩ : ∃ q : Nat, m = q := ⟨m.toNat, by omega⟩
      rw [hfn] at HF
      rw [sN_some hfn, Int.toNat_natCast]
      obtain ⟨bo, c, e⟩ := HH.out.slice
      subst e
      obtain ⟨bo', c', e, hcap, _, hsrc, _⟩ := HH.out.2
      cases e
      obtain ⟨sb, so, e, _⟩ := hsrc (by omega)
      subst e
      clear hfn hsrc
      go_enter Try.func76, Try.ntmps76
      go_wp2_with fail
      refine HE.out.mono ?_
      rintro e w1 ⟨rfl, rfl⟩
      go_wp2_with fail
      refine HF.out.mono ?_
      rintro e w1 ⟨rfl, rfl⟩
      simp only [firstV]
      go_wp2_with (with_reducible refine stop_slice 22 ?_)
      refine hide ?_
      refine aw_lo25 (B := B) q rfl rfl rfl HH.out.2 (by omega) ?_
      intro so' hs'
      obtain ⟨hg1, hg2⟩ := HH.out.go hs'
      have HG1 := hide hg1
      clear hg1 hs'
      generalize B.length - q = q1 at *
      generalize c - q = q2 at *
      go_wp2
      go_ret
      exact ⟨_, rfl, HG1.out, hg2⟩
  · have HH := hide h
    rw [scanNum_err m hE]
    clear h
    go_enter Try.func76, Try.ntmps76
    go_wp2_with fail
    refine HE.out.mono ?_
    rintro e w1 ⟨rfl, rfl⟩
    go_wp2
    go_ret
    exact ⟨v, rfl, HH.out, Kept.refl _ _⟩

/-- A slice from l to h. -/
theorem aw_mid25 {ops : Array Oper} {Q : Exit → Act → World → Prop} {a : Act} {rest : List Oper} {w : World} {dst : Option Tmp} {ty : TypeId} {pos : String} {aft : Array Edge} {x y z : Operand} {sb so len cap : Nat} {B : List Nat} (l h : Nat) {k j : IntKind} (hx : a.eval x = .slice (some ⟨sb, so, none⟩) len cap) (hy : a.eval y = .int k l) (hz : a.eval z = .int j h) (hB : B.length = len) (hs : Src w (.slice (some ⟨sb, so, none⟩) len cap) B) (hl : l ≤ h) (hh : h ≤ len)
    (hn : ∀ so', Src w (.slice (some ⟨sb, so', none⟩) (h - l) (cap - l)) ((B.drop l).take (h - l)) → wpList Try.prog ops Q rest (a.put dst (.slice (some ⟨sb, so', none⟩) (h - l) (cap - l))) w) : wpList Try.prog ops Q (⟨dst, .slice 22 x (some y) (some z) none, ty, pos, aft, none⟩ :: rest) a w := by
  obtain ⟨i5, hi5, hz5, hs5, hb5⟩ := info_parts Try.info5
  obtain ⟨bo, c, e, h1, h2, h3, h4⟩ := hs
  cases e
  have hr : (execOp a.eval ⟨dst, .slice 22 x (some y) (some z) none, ty, pos, aft, none⟩).run Try.prog w = .ok (.value (.slice (some ⟨sb, if cap = l then so else so + l, none⟩) (h - l) (cap - l))) w := by
    have g1 : (0 : Int) ≤ (h : Int) ∧ (h : Int) ≤ (cap : Int) := by omega
    have g2 : (0 : Int) ≤ (l : Int) ∧ (l : Int) ≤ (h : Int) := by omega
    have g3 : h ≤ cap := by omega
    by_cases hc : cap = l
    · simp [execOp, Instr.sliceAt, run_underlying Try.underlying22, Instr.slice, hx, hy, hz, Instr.sliceBounds, Instr.sliceBound, asIntOf, g1, g2, g3, hl, sizeOf, typeInfo, hi5, hc]
      omega
    · simp [execOp, Instr.sliceAt, run_underlying Try.underlying22, Instr.slice, hx, hy, hz, Instr.sliceBounds, Instr.sliceBound, asIntOf, g1, g2, g3, hl, sizeOf, typeInfo, hi5, hc, hs5, addr_add]
  refine wpList_run rfl hr (hn _ ?_)
  have hlen : ((B.drop l).take (h - l)).length = h - l := by simp; omega
  refine ⟨some ⟨sb, if cap = l then so else so + l, none⟩, cap - l, by rw [hlen], by rw [hlen]; omega, fun x hx => h2 x (List.mem_of_mem_drop (List.mem_of_mem_take hx)), fun h0 => ?_, fun h => by cases h⟩
  rw [hlen] at h0
  obtain ⟨sb', so', e, hc⟩ := h3 (by omega)
  cases e
  have hne : ¬ cap = l := by omega
  rw [if_neg hne]
  refine ⟨_, _, rfl, ?_⟩
  have := hc.part l (h - l)
  rw [← BV_drop, ← BV_take] at this
  exact this

theorem sT_none {B : List Nat} {m : Int} (h : firstN B 2 = none) : scanText B 0 m = ([], B, 20) := by simp [scanText, h]
theorem sT_no {B : List Nat} {m : Int} {n : Nat} (h : firstN B 2 = some n) (h2 : ¬ ((n : Int) ≤ m ∧ n + 2 ≤ B.length)) : scanText B 0 m = ([], B, 20) := by simp only [scanText, h, ne_eq, not_true_eq_false, if_false]; rw [if_neg h2]
theorem sT_some {B : List Nat} {m : Int} {n : Nat} (h : firstN B 2 = some n) (h2 : (n : Int) ≤ m ∧ n + 2 ≤ B.length) : scanText B 0 m = ((B.drop 2).take n, B.drop (2 + n), 0) := by simp only [scanText, h, ne_eq, not_true_eq_false, if_false]; rw [if_pos h2]
theorem sT_err {B : List Nat} {E : Int} (m : Int) (h : E ≠ 0) : scanText B E m = ([], B, E) := by simp [scanText, h]

set_option maxHeartbeats 2000000 in
theorem stext_at (w : World) (s : Nat) (v : Value) (B : List Nat) (E : Int) (h : ScanAt w s v B E) (hl : B.length ≤ 90000000) (m : Int) :
    Calls Try.prog 92 #[.pointer (some ⟨s, 0, none⟩), .int .i64 m] w fun e w' => ∃ vr v', e = .returned vr ∧ Src w' vr (scanText B E m).1 ∧ ScanAt w' s v' (scanText B E m).2.1 (scanText B E m).2.2 ∧ Kept (fun k => k = s) w w' := by
  have HE := hide (err_at w s v B E h)
  by_cases hE : E = 0
  · subst hE
    have HF := hide (first_at w v B h.2 (by omega) 2)
    have hc0 := h.1.cell 0
    have hc1 := h.1.cell 1
    have hf0 := h.1.frozen 0
    have hf1 := h.1.frozen 1
    simp at hc0 hc1
    have HH := hide h
    clear h
    cases hfn : firstN B 2 with
    | none =>
      rw [hfn] at HF
      rw [sT_none hfn]
      clear hfn
      go_enter Try.func92, Try.ntmps92
      go_wp2_with fail
      refine HE.out.mono ?_
      rintro e w1 ⟨rfl, rfl⟩
      go_wp2_with fail
      refine HF.out.mono ?_
      rintro e w1 ⟨rfl, rfl⟩
      simp only [firstV]
      go_wp2
      go_ret
      exact ⟨_, v, rfl, Src.nil _, HH.out.fail.1, HH.out.fail.2⟩
    | some n =>
      obtain ⟨h1, h8, hml, hnv, hn⟩ := firstN_some hfn
      have hn16 : n < 65536 := by
        have := valN_lt (B.take (2 : Int).toNat) (fun x hx => HH.out.2.lt x (List.mem_of_mem_take hx))
        have e : (B.take (2 : Int).toNat).length = 2 := by simp; omega
        rw [e, ← hnv] at this
        simpa using this
      clear hnv
      rw [hfn] at HF
      obtain ⟨bo, c, e⟩ := HH.out.slice
      subst e
      obtain ⟨bo', c', e, hcap, _, hsrc, _⟩ := HH.out.2
      cases e
      obtain ⟨sb, so, e, _⟩ := hsrc (by omega)
      subst e
      clear hsrc
      have hw2 : IntKind.i64.wrap ((B.length : Int) - 2) = (B.length : Int) - 2 := by rw [IntKind.wrap_i64]; omega
      by_cases hm : (n : Int) ≤ m
      · by_cases hL : n + 2 ≤ B.length
        · rw [sT_some hfn ⟨hm, hL⟩]
          have hw3 : IntKind.i64.wrap (2 + (n : Int)) = ((2 + n : Nat) : Int) := by rw [IntKind.wrap_i64]; omega
          have hm' : ¬ (n : Int) > m := by omega
          have hL' : ¬ (n : Int) > (B.length : Int) - 2 := by omega
          have hL2 : ¬ ((B.length : Int) - 2 < (n : Int)) := by omega
          clear hfn
          go_enter Try.func92, Try.ntmps92
          go_wp2_with fail
          refine HE.out.mono ?_
          rintro e w1 ⟨rfl, rfl⟩
          go_wp2_with fail
          refine HF.out.mono ?_
          rintro e w1 ⟨rfl, rfl⟩
          simp only [firstV]
          go_wp2_with (with_reducible refine stop_slice 22 ?_)
          refine hide ?_
          refine aw_mid25 (B := B) 2 (2 + n) rfl rfl rfl rfl HH.out.2 (by omega) (by omega) ?_
          intro so1 hs1
          rw [show 2 + n - 2 = n by omega] at hs1 ⊢
          have HTl := hide (tell_at w _ _ hs1 0 (by simp; omega))
          clear hs1
          generalize c - 2 = c2 at *
          go_wp2_with fail
          refine HTl.out.mono ?_
          rintro e w2 ⟨vr, rfl, hsr, hk2⟩
          rw [List.replicate_zero, List.append_nil] at hsr
          have HSr := hide hsr
          have HH2 := hide (HH.out.kept hk2)
          have hc0' := HH2.out.1.cell 0
          have hc1' := HH2.out.1.cell 1
          have hf0' := HH2.out.1.frozen 0
          have hf1' := HH2.out.1.frozen 1
          simp at hc0' hc1'
          clear hsr
          go_wp2_with (with_reducible refine stop_slice 22 ?_)
          refine hide ?_
          refine aw_lo25 (B := B) (2 + n) rfl rfl rfl HH2.out.2 (by omega) ?_
          intro so' hs'
          obtain ⟨hg1, hg2⟩ := HH2.out.go hs'
          have HG1 := hide hg1
          have HSr2 := hide (HSr.out.keptBut hg2 HH2.out.nobyte)
          have hkk : Kept (fun k => k = s) w (w2.setCell ⟨s, 0, none⟩ (.slice (some ⟨sb, so', none⟩) (B.length - (2 + n)) (c - (2 + n)))) := (hk2.mono (fun _ _ h => h.elim) : Kept (fun k => k = s) w w2).trans hg2 (fun _ _ h => h)
          clear hg1 hs' hg2
          generalize B.length - (2 + n) = q1 at *
          generalize c - (2 + n) = q2 at *
          go_wp2
          go_ret
          exact ⟨vr, _, rfl, HSr2.out, HG1.out, hkk⟩
        · rw [sT_no hfn (fun h => hL h.2)]
          have hL' : (n : Int) > (B.length : Int) - 2 := by omega
          have hm' : ¬ (n : Int) > m := by omega
          clear hfn
          go_enter Try.func92, Try.ntmps92
          go_wp2_with fail
          refine HE.out.mono ?_
          rintro e w1 ⟨rfl, rfl⟩
          go_wp2_with fail
          refine HF.out.mono ?_
          rintro e w1 ⟨rfl, rfl⟩
          simp only [firstV]
          go_wp2
          go_ret
          exact ⟨_, _, rfl, Src.nil _, HH.out.fail.1, HH.out.fail.2⟩
      · rw [sT_no hfn (fun h => hm h.1)]
        have hm' : (n : Int) > m := by omega
        clear hfn
        go_enter Try.func92, Try.ntmps92
        go_wp2_with fail
        refine HE.out.mono ?_
        rintro e w1 ⟨rfl, rfl⟩
        go_wp2_with fail
        refine HF.out.mono ?_
        rintro e w1 ⟨rfl, rfl⟩
        simp only [firstV]
        go_wp2
        go_ret
        exact ⟨_, _, rfl, Src.nil _, HH.out.fail.1, HH.out.fail.2⟩
  · have HH := hide h
    rw [sT_err m hE]
    clear h
    go_enter Try.func92, Try.ntmps92
    go_wp2_with fail
    refine HE.out.mono ?_
    rintro e w1 ⟨rfl, rfl⟩
    go_wp2
    go_ret
    exact ⟨_, v, rfl, Src.nil _, HH.out, Kept.refl _ _⟩

theorem nN_hit {B : List Nat} {k : Nat} (hk : k < B.length) (h : B[k] ≠ 0) (E : Int) : noughtsN B E = false := by
  unfold noughtsN
  rw [Bool.and_eq_false_iff]
  refine .inr ?_
  rw [← Bool.not_eq_true, List.all_eq_true]
  intro h2
  have := h2 _ (List.getElem_mem hk)
  simp at this
  exact h this
theorem nN_all {B : List Nat} (h : ∀ j (hj : j < B.length), B[j] = 0) : noughtsN B 0 = true := by
  unfold noughtsN
  simp only [decide_true, Bool.true_and, List.all_eq_true]
  intro x hx
  obtain ⟨j, hj, rfl⟩ := List.mem_iff_getElem.1 hx
  simp [h j hj]
set_option maxHeartbeats 2000000 in
theorem noughts_at (w : World) (s : Nat) (v : Value) (B : List Nat) (E : Int) (h : ScanAt w s v B E) (hl : B.length ≤ 90000000) :
    Calls Try.prog 93 #[.pointer (some ⟨s, 0, none⟩)] w fun e w' => e = .returned (.bool (noughtsN B E)) ∧ w = w' := by
  have HE := hide (err_at w s v B E h)
  by_cases hE : E = 0
  · subst hE
    have hc0 := h.1.cell 0
    simp at hc0
    obtain ⟨bo, c, rfl⟩ := h.slice
    obtain ⟨bo', c', e, hcap, hB, hsrc, _⟩ := h.2
    cases e
    have HSrc := hide hsrc
    have HB := hide hB
    clear h hB hsrc
    go_enter Try.func93, Try.ntmps93
    go_wp2_with fail
    refine HE.out.mono ?_
    rintro e w1 ⟨rfl, rfl⟩
    go_wp2
    go_loopw [13] (fun i wr => ∃ k : Nat, k ≤ B.length ∧ i = .int .i64 k ∧ w = wr ∧ Hid (∀ j (hj : j < B.length), j < k → B[j] = 0)) (fun i _ => B.length - (intOf i).toNat)
    case atStart => exact ⟨0, by omega, rfl, rfl, hide (fun j hj h => absurd h (by omega))⟩
    case round =>
      obtain ⟨k, hk, rfl, rfl, HZ⟩ := hrel
      by_cases hlt : k < B.length
      · obtain ⟨sb, so, rfl, hc⟩ := HSrc.out (by omega)
        have c0 := hc k _ (BV_get B k hlt)
        have HNZ : Hid (B[k] ≠ 0 → noughtsN B 0 = false) := hide (fun h => nN_hit hlt h 0)
        have HNX : Hid (B[k] = 0 → ∀ j (hj : j < B.length), j < k + 1 → B[j] = 0) := hide (fun h j hj hjk => by
          by_cases e : j = k
          · subst e; exact h
          · exact HZ.out j hj (by omega))
        clear hc
        generalize B[k] = x at *
        by_cases hx : x = 0
        · subst hx
          have HN := hide (HNX.out rfl)
          clear HNZ HNX HZ
          go_wp2
          go_roundw
          case rel => exact ⟨k + 1, by omega, by go_num, trivial, HN⟩
          case measure => simp [intOf]; omega
        · have hx' : ¬ ((x : Int) = 0) := by omega
          have HN := hide (HNZ.out hx)
          clear HNZ HNX HZ
          go_wp2
          go_ret
          exact ⟨by rw [HN.out]; rfl, rfl⟩
      · obtain rfl : k = B.length := by omega
        have HN : Hid (noughtsN B 0 = true) := hide (nN_all (fun j hj => HZ.out j hj hj))
        clear HZ
        go_wp2
        go_ret
        exact ⟨by rw [HN.out]; rfl, rfl⟩
  · have HN : Hid (noughtsN B E = false) := hide (by simp [noughtsN, hE])
    clear h
    go_enter Try.func93, Try.ntmps93
    go_wp2_with fail
    refine HE.out.mono ?_
    rintro e w1 ⟨rfl, rfl⟩
    go_wp2
    go_ret
    exact ⟨by rw [HN.out]; rfl, rfl⟩

end Go.Proofs.Ytbbhchmdggfncaa


/-
  'first', the statements' own first line: it answers true, and touches nothing that was there.
-/
namespace Go.Proofs.Ytbbhchmdggfncaa
open Go.RowKit Go.Shelf
set_option linter.unusedSimpArgs false
set_option linter.unusedVariables false
set_option maxRecDepth 100000

section
variable {ρ : Operand → Value} {w : World} {dst : Option Tmp} {ty : TypeId} {pos : String} {aft : Array Edge} {gd : Option (Nat × Bool)} {x y z : Operand}
end
/-- A new pen. -/
theorem pen_new {w : World} {p : Nat} (hb : Blk w p [.slice none 0 0] 100) : PenAt w p (.slice none 0 0) [] := ⟨hb, Own.nil w 0⟩

end Go.Proofs.Ytbbhchmdggfncaa


/-
  The laws of Blk inside a fence, and a region that draws its order within a round of a range over a function.
-/
namespace Go.Proofs.Ytbbhchmdggfncaa
open Go.RowKit Go.Shelf
set_option linter.unusedSimpArgs false
set_option linter.unusedVariables false
set_option maxRecDepth 100000

section
variable {F : Fence} {n : Nat} {P : Program} {ops : Array Oper} {Q : Exit → Act → World → Prop} {a : Act} {w w' : World} {rest : List Oper} {o : Oper} {v : Value}

theorem wpListIn_run (hg : o.guard = none) (hab : o.about P w a.eval = none) (hdef : ∀ c, o.op ≠ .defer c)
    (hr : (execOp a.eval o).run P w = .ok (.value v) w') (h : wpListIn F n P ops Q rest (a.put o.dst v) w') : wpListIn F n P ops Q (o :: rest) a w :=
  wpListIn_plain hg fun K hK => ⟨fun f hf => (by rw [hab] at hf; cases hf), by rw [Oper.semAt_eq _ _ _ hdef, hr]; exact hK _ _ h⟩

theorem wpListIn_run_skip (hg : o.guard = none) (hab : o.about P w a.eval = none) (hdef : ∀ c, o.op ≠ .defer c)
    (hr : (execOp a.eval o).run P w = .ok .skip w') (h : wpListIn F n P ops Q rest (a.put o.dst undef) w') : wpListIn F n P ops Q (o :: rest) a w :=
  wpListIn_plain hg fun K hK => ⟨fun f hf => (by rw [hab] at hf; cases hf), by rw [Oper.semAt_eq _ _ _ hdef, hr]; exact hK _ _ h⟩
end

section
variable {F : Fence} {n : Nat} {P : Program} {ops : Array Oper} {Q : Exit → Act → World → Prop} {a : Act} {w : World} {rest : List Oper} {dst : Option Tmp} {ty : TypeId} {pos : String} {aft : Array Edge}

theorem ai_alloc {t : TypeId} {i : TypeInfo} {z : Value} (hi : P.info? t = some i) (hz : i.zero = some z)
    (h : ∀ w', Blk w' w.heap.size z.cells.toList t → Kept (fun _ => False) w w' → w'.heap.size = w.heap.size + 1 → wpListIn F n P ops Q rest (a.put dst (.pointer (some ⟨w.heap.size, 0, none⟩))) w') :
    wpListIn F n P ops Q (⟨dst, .alloc t, ty, pos, aft, none⟩ :: rest) a w :=
  wpListIn_run rfl rfl (fun _ => by simp) (run_alloc_agg hi hz) (h _ (Blk.newA w _ t) (Kept.alloc _ w _) (by simp))

theorem ai_load {t : TypeId} {x : Operand} {b off m : Nat} {L M : List Value} {e : TypeId} (ht : aggSize P t m) (hx : a.eval x = .pointer (some ⟨b, off, none⟩)) (hb : Blk w b L e) (hl : off + m ≤ L.length) (hM : (L.drop off).take m = M)
    (h : wpListIn F n P ops Q rest (a.put dst (.agg M.toArray)) w) : wpListIn F n P ops Q (⟨dst, .load t x, ty, pos, aft, none⟩ :: rest) a w := by
  subst hM
  exact wpListIn_run rfl rfl (fun _ => by simp) (run_load_agg ht hx hb hl) h

theorem ai_store {t : TypeId} {x y : Operand} {b off m : Nat} {L M : List Value} {e : TypeId} (ht : aggSize P t m) (hx : a.eval x = .pointer (some ⟨b, off, none⟩)) (hy : a.eval y = .agg M.toArray) (hM : M.length = m)
    (h1 : ∀ v ∈ M, v.oneCell' = true) (hb : Blk w b L e) (hl : off + m ≤ L.length)
    (h : ∀ w', Blk w' b (put L off M) e → Kept (fun k => k = b) w w' → w'.heap.size = w.heap.size → wpListIn F n P ops Q rest (a.put dst undef) w') : wpListIn F n P ops Q (⟨dst, .store t x y, ty, pos, aft, none⟩ :: rest) a w := by
  have hr := run_store_agg (P := P) (ρ := a.eval) (dst := dst) (ty := ty) (pos := pos) (aft := aft) (gd := none) ht hx hy hM h1 hb hl
  refine wpListIn_run_skip rfl rfl (fun _ => by simp) hr (h _ ?_ (Kept.setRow (S := fun k => k = b) w b _ rfl) (by simp [World.setRow]))
  have := hb.setRow (L.take off ++ M ++ L.drop (off + m))
  unfold put; rw [hM]; exact this
end

theorem rowsIn_of_rows {l n : Nat} {P : Program} {row : String} {args : Array Value} {w : World} {R : Value → World → Prop} (h : Rows P row args w R) : RowsIn (Fence.wide.inRound l) n P row args w R :=
  fun c cs _ => let ⟨v, w', r, s⟩ := h c cs; ⟨v, w', r, stepsIn_wide.2 s⟩

theorem wpOpIn_of_wpOp {l n : Nat} {P : Program} {ops : Array Oper} {Q : Exit → Act → World → Prop} (hQ : ¬ LetsOut Q) (hnd : ∀ (i : Nat) (o : Oper), ops[i]? = some o → ∀ c, o.op ≠ .defer c)
    {i : Nat} {K K' : Act → World → Prop} {a : Act} {w : World} (hK : ∀ a w, K a w → K' a w) (h : wpOp P ops Q i K a w) : wpOpIn (Fence.wide.inRound l) n P ops Q i K' a w := by
  unfold wpOp at h
  unfold wpOpIn
  cases ho : ops[i]? with
  | none => simp only [ho] at h ⊢; exact hK _ _ h
  | some o =>
    simp only [ho] at h ⊢
    split
    · rename_i hw
      simp only [hw, if_true] at h
      rcases h with h | ⟨_, h⟩
      · refine ⟨fun _ _ => trivial, ?_⟩
        rw [Oper.semAt_eq _ _ _ (hnd i o ho)]
        unfold Oper.wp at h
        generalize (execOp a.eval o).run P w = r at h ⊢
        cases r with
        | ok x w' =>
          cases x <;> simp only [Oper.upon] at h <;> simp only [Oper.uponIn]
          case value v => exact hK _ _ h
          case skip => exact hK _ _ h
          case defer d => exact hK _ _ h
          case enter f args =>
            refine ⟨fun e => (by cases e), CallsIn.inRound l (callsIn_wide.2 (h.mono ?_))⟩
            intro e w'' hh
            cases e with
            | returned v => exact hK _ _ hh
            | panicked c => exact hh
            | outgrown => exact hh
          case row r args => exact ⟨fun e => (by cases e), rowsIn_of_rows (h.mono fun v w'' hh => hK _ _ hh)⟩
        | halt x w' =>
          cases x <;> simp only [Oper.upon] at h <;> simp only [Oper.uponIn]
          all_goals exact h
      · exact absurd h hQ
    · rename_i hw
      simp only [hw] at h
      exact ⟨fun _ _ => trivial, hK _ _ h⟩

theorem wpAnyIn_of_wpAny {l n : Nat} {P : Program} {md : Region.Mode} {ops : Array Oper} {Q : Exit → Act → World → Prop} (hQ : ¬ LetsOut Q) (hnd : ∀ (i : Nat) (o : Oper), ops[i]? = some o → ∀ c, o.op ≠ .defer c) :
    ∀ (fuel : Nat) (listed : Array Bool) (a : Act) (w : World), wpAny P md ops Q fuel listed a w → wpAnyIn (Fence.wide.inRound l) n P md ops Q fuel listed a w
  | 0, _, _, _, h => h
  | fuel + 1, _, _, _, h => ⟨h.1, fun i hi => wpOpIn_of_wpOp hQ hnd (fun a w => wpAnyIn_of_wpAny hQ hnd fuel _ a w) (h.2 i hi)⟩

/-- A region that draws, within a round: reads first under S, then what is left. -/
theorem regionIn_held {l n : Nat} {P : Program} {id : Nat} {ops : Array Oper} {Q : Exit → Act → World → Prop} {S : World → Prop} {a : Act} {w : World} (hm : P.follows .mixedOrders = true) (hQ : ¬ LetsOut Q)
    (hnd : ops.all (fun o => match o.op with | .defer _ => false | _ => true) = true)
    (h : ∀ w', Kept (fun _ => False) w w' → w'.heap = w.heap → wpAnyH P .any ops Q S ops.size (Array.replicate ops.size false) a w') : (Code.region id ops true).wpIn (Fence.wide.inRound l) n P Q a w := by
  refine wpIn_region_any hm (wpAnyIn_of_wpAny hQ ?_ _ _ _ _ (wpAny_of_held _ _ _ _ (h _ ⟨rfl, rfl, rfl, Nat.le_refl _, fun _ _ _ => rfl⟩ rfl)))
  intro i o ho c e
  have := Array.all_eq_true'.1 hnd o (Array.mem_of_getElem? ho)
  rw [e] at this
  cases this

/-- A read, taken first. -/
theorem take_read {P : Program} {md : Region.Mode} {ops : Array Oper} {Q : Exit → Act → World → Prop} {S : World → Prop} {fuel : Nat} {listed : Array Bool} {a : Act} {w : World} (i : Nat) {oi : Oper} {v : Value} (hi : ops[i]? = some oi)
    (hs : Region.noSelect ops = true) (hf : Region.free md ops listed i = true) (hr : (Region.ready md ops listed).contains i = true) (hg : oi.guard = none)
    (hQ : ∀ c a w, Q (.panic c) (a.put oi.dst v) w → Q (.panic c) a w) (hS : S w) (hrun : ∀ w, S w → (execOp a.eval oi).run P w = .ok (.value v) w)
    (h : wpAnyH P md ops Q S fuel (listed.setIfInBounds i true) (a.put oi.dst v) w) : wpAnyH P md ops Q S (fuel + 1) listed a w :=
  wpAnyH_take hi hs hf hr hQ (.inl ⟨by simp [Region.wanted, hg], hrun⟩) hS h

theorem op_value {P : Program} {ops : Array Oper} {Q : Exit → Act → World → Prop} {K : Act → World → Prop} {a : Act} {w w' : World} (i : Nat) {oi : Oper} {v : Value} (hi : ops[i]? = some oi) (hg : oi.guard = none)
    (hrun : (execOp a.eval oi).run P w = .ok (.value v) w') (h : K (a.put oi.dst v) w') : wpOp P ops Q i K a w := by
  unfold wpOp
  simp only [hi, Region.wanted, hg, if_true]
  exact .inl (by unfold Oper.wp; rw [hrun]; exact h)

/-- The only operation that may come. -/
theorem do_one {P : Program} {md : Region.Mode} {ops : Array Oper} {Q : Exit → Act → World → Prop} {S : World → Prop} {fuel : Nat} {listed : Array Bool} {a : Act} {w w' : World} (i : Nat) {oi : Oper} {v : Value} (hi : ops[i]? = some oi)
    (hr : Region.ready md ops listed = [i]) (hg : oi.guard = none) (hrun : (execOp a.eval oi).run P w = .ok (.value v) w') (hS : S w')
    (h : wpAnyH P md ops Q S fuel (listed.setIfInBounds i true) (a.put oi.dst v) w') : wpAnyH P md ops Q S (fuel + 1) listed a w := by
  refine wpAnyH_all hr (by simp) ?_
  intro j hj
  simp at hj
  subst hj
  unfold wpOp
  simp only [hi, Region.wanted, hg, if_true]
  exact .inl (by unfold Oper.wp; rw [hrun]; exact ⟨hS, h⟩)

theorem do_one_skip {P : Program} {md : Region.Mode} {ops : Array Oper} {Q : Exit → Act → World → Prop} {S : World → Prop} {fuel : Nat} {listed : Array Bool} {a : Act} {w w' : World} (i : Nat) {oi : Oper} (hi : ops[i]? = some oi)
    (hr : Region.ready md ops listed = [i]) (hg : oi.guard = none) (hrun : (execOp a.eval oi).run P w = .ok .skip w') (hS : S w')
    (h : wpAnyH P md ops Q S fuel (listed.setIfInBounds i true) (a.put oi.dst undef) w') : wpAnyH P md ops Q S (fuel + 1) listed a w := by
  refine wpAnyH_all hr (by simp) ?_
  intro j hj
  simp at hj
  subst hj
  unfold wpOp
  simp only [hi, Region.wanted, hg, if_true]
  exact .inl (by unfold Oper.wp; rw [hrun]; exact ⟨hS, h⟩)

end Go.Proofs.Ytbbhchmdggfncaa
