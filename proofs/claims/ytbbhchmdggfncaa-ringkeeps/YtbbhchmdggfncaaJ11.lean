/-
  slices.Chunk, of bytes in sectors, as a sequence.
-/
import Derived.Test.YtbbhchmdggfncaaJ10
import Derived.Test.YtbbhchmdggfncaaJ02
import Derived.Test.YtbbhchmdggfncaaJ01
namespace Go.Proofs.Ytbbhchmdggfncaa
open Go.RowKit Go.Shelf
set_option linter.unusedSimpArgs false
set_option linter.unusedVariables false
set_option maxRecDepth 100000
attribute [local go_sem] Oper.semAt_some

theorem r_cut22 {ρ : Operand → Value} {w : World} {dst : Option Tmp} {ty : TypeId} {pos : String} {aft : Array Edge} {gd : Option (Nat × Bool)} {x y z u : Operand} {sb so len cap : Nat} (l h : Nat) {k j i : IntKind} (hx : ρ x = .slice (some ⟨sb, so, none⟩) len cap) (hy : ρ y = .int k l) {q : Int} (hz : ρ z = .int j q) (hu : ρ u = .int i q) (hq : q = (h : Nat)) (hl : l < h) (hh : h ≤ cap) :
    (execOp ρ ⟨dst, .slice 22 x (some y) (some z) (some u), ty, pos, aft, gd⟩).run Try.prog w = .ok (.value (.slice (some ⟨sb, so + l, none⟩) (h - l) (h - l))) w := by
  subst hq
  obtain ⟨i5, hi5, hz5, hs5, hb5⟩ := info_parts Try.info5
  have g1 : (0 : Int) ≤ (h : Int) ∧ (h : Int) ≤ (cap : Int) := by omega
  have g2 : (0 : Int) ≤ (l : Int) ∧ (l : Int) ≤ (h : Int) := by omega
  have g3 : l ≤ h := by omega
  have hc : ¬ h = l := by omega
  have g4 : (0 : Int) ≤ (h : Int) ∧ (h : Int) ≤ (h : Int) := by omega
  simp [execOp, Instr.sliceAt, run_underlying Try.underlying22, Instr.slice, hx, hy, hz, hu, Instr.sliceBounds, Instr.sliceBound, asIntOf, g1, g2, g3, g4, hh, sizeOf, typeInfo, hi5, hc, hs5, addr_add]
/-- What the sequence reads. -/
def chX (bl bn : Nat) (B : List Nat) (v : Value) (k : Nat) : Prop := k = bl ∨ k = bn ∨ (0 < B.length ∧ vX v k)
theorem r_len22c {ρ : Operand → Value} {w : World} {dst : Option Tmp} {ty : TypeId} {pos : String} {aft : Array Edge} {gd : Option (Nat × Bool)} {x : Operand} {ao : Option Addr} {l c : Nat} (hx : ρ x = .slice ao l c) : (execOp ρ ⟨dst, .call { callee := .builtin .len, args := #[x], argTypes := #[22] }, ty, pos, aft, gd⟩).run Try.prog w = .ok (.value (.int .i64 l)) w := by
  go_simp

set_option maxHeartbeats 4000000 in
theorem chunk1_at {B : List Nat} {bl bn : Nat} {v : Value} {W : World} (hbl : Blk W bl [v] 22) (hbn : Blk W bn [.int .i64 64] 3) (hv : Src W v B) (hl : B.length ≤ 1000000) :
    FSeqAt Try.prog (.func (.func 74) #[] #[.pointer (some ⟨bl, 0, none⟩), .pointer (some ⟨bn, 0, none⟩)]) (EC (chX bl bn B v)) (chunkN B) (chX bl bn B v) (fun _ => False) (fun _ _ _ => True) W := by
  intro tv J Jx F0 htv hJ hJx hF0 ht h0
  have HJ := hide hJ
  have HT := hide ht
  have H0 := hide h0
  have HF0 := hide hF0
  have HBl := hide hbl
  have HBn := hide hbn
  have HV := hide hv
  have hltl := hbl.lt
  have hltn := hbn.lt
  obtain ⟨c, hc⟩ : ∃ c, c = (B.length + 63) / 64 := ⟨_, rfl⟩
  have hxl : (chunkN B).length = c := by rw [chunkN_length, hc]
  have hxk : ∀ k (h : k < (chunkN B).length), (chunkN B)[k] = (B.drop (64 * k)).take 64 := fun k h => by simp [chunkN]
  have Hxl := hide hxl
  have Hxk := hide hxk
  obtain ⟨xs, hxs⟩ : ∃ xs, xs = chunkN B := ⟨_, rfl⟩
  rw [← hxs] at HT Hxl Hxk ⊢
  obtain ⟨bo, cap, rfl, hcap, -, hsrc, -⟩ := hv
  obtain ⟨len, hlen⟩ : ∃ len, len = B.length := ⟨_, rfl⟩
  have Hlen := hide hlen
  have HSrc := hide hsrc
  rw [← hlen] at hcap hl hc HBl HF0 HV HSrc HT
  have hc1 : 64 * c < len + 64 := by omega
  have hc2 : len ≤ 64 * c := by omega
  clear hJ hJx ht h0 hF0 hbl hbn hxl hxk hxs hsrc hlen hc
  refine .inl ⟨_, _, rfl, enters_of Try.func74 (by kernel_rfl) rfl, ?_⟩
  show Calls Try.prog 74 #[tv, .pointer (some ⟨bl, 0, none⟩), .pointer (some ⟨bn, 0, none⟩)] W _
  refine (callsIn_wide (n := 4)).1 (callsIn_of_wp Try.func74 rfl trivial ?_ rfl)
  simp only [Try.ntmps74, List.size_toArray, List.length_cons, List.length_nil, Nat.reduceAdd, Nat.reduceSub, Array.replicate_succ, Array.replicate_zero, List.push_toArray, List.append_toArray, List.nil_append, List.cons_append]
  gi_wp2
  gi_loopw [4] (fun i wr => ∃ (k : Nat) (F : NSet), i = .int .i64 ((64 * k : Nat) : Int) ∧ k ≤ c ∧ Hid (J (xs.take k) F wr) ∧ Hid (∀ k, F k → F0 k ∨ W.heap.size ≤ k) ∧ Hid (Kept F0 W wr))
    (fun i _ => 64 * c - (intOf i).toNat)
  case atStart => exact ⟨0, F0, rfl, Nat.zero_le _, hide H0.out, hide (fun k h => .inl h), hide (Kept.refl _ _)⟩
  case round =>
    obtain ⟨k, F, rfl, hk, hJk, hFk, hKk⟩ := hrel
    have hbl2 := hKk.out.blk HBl.out (fun h => (HF0.out bl h).1 (.inl rfl))
    have hbn2 := hKk.out.blk HBn.out (fun h => (HF0.out bn h).1 (.inr (.inl rfl)))
    have HBl2 := hide hbl2
    have HBn2 := hide hbn2
    have c0 : wr.cell? ⟨bl, 0, none⟩ = some (.slice bo len cap) := hbl2.cell 0
    have cn : wr.cell? ⟨bn, 0, none⟩ = some (.int .i64 64) := hbn2.cell 0
    clear hbl2 hbn2
    obtain ⟨k6, hk6⟩ : ∃ k6, k6 = 64 * k := ⟨_, rfl⟩
    rw [← hk6]
    have Hk6 := hide hk6
    by_cases hlt2 : k < c
    · have hlt : k6 < len := by omega
      have hlti : (k6 : Int) < (len : Int) := by omega
      obtain ⟨g, off, rfl, hcs⟩ := HSrc.out (by omega)
      have hkx : k < xs.length := by rw [Hxl.out]; exact hlt2
      have hgX : chX bl bn B (.slice (some ⟨g, off, none⟩) len cap) g := .inr (.inr ⟨by have := Hlen.out; omega, off, _, _, rfl⟩)
      have Hzs : Hid (xs.take (k + 1) = xs.take k ++ [xs[k]] ∧ (xs.take (k + 1)).length = k + 1) := hide ⟨List.take_succ_eq_append_getElem hkx, by rw [List.length_take]; omega⟩
      have Hzp : Hid (xs = xs.take k ++ xs[k] :: xs.drop (k + 1)) := hide (by rw [List.getElem_cons_drop, List.take_append_drop])
      have Hzx : Hid (xs[k] = (B.drop (64 * k)).take 64) := hide (Hxk.out k hkx)
      obtain ⟨x, hx⟩ : ∃ x, x = xs[k] := ⟨_, rfl⟩
      rw [← hx] at Hzs Hzp Hzx
      clear hx hcs hk6
      obtain ⟨en, hen⟩ : ∃ en, en = min 64 (len - k6) := ⟨_, rfl⟩
      have hen0 : 0 < en := by omega
      have hen1 : k6 + en ≤ len := by omega
      have hen2 : en ≤ 64 := by omega
      have Hen : Hid (min (64 : Int) ((len - k6 : Nat) : Int) = (en : Nat)) := hide (by omega)
      have Hen2 : Hid (en = min 64 (len - k6)) := hide hen
      clear hen
      gi_wp2
      refine region_I 99 Try.mixed ?_
      intro w1 hk1 hh1
      refine ⟨fun U => Blk U bl [.slice (some ⟨g, off, none⟩) len cap] 22 ∧ Blk U bn [.int .i64 64] 3, ?_⟩
      have hS1 : Blk w1 bl [.slice (some ⟨g, off, none⟩) len cap] 22 ∧ Blk w1 bn [.int .i64 64] 3 := ⟨hk1.blk HBl2.out (fun h => h), hk1.blk HBn2.out (fun h => h)⟩
      refine tkI 0 13 (v := .int .i64 64) hS1 rfl rfl (by kernel_rfl) (by kernel_rfl) (by kernel_rfl) (by kernel_rfl) rfl (fun _ _ _ h => h) (fun U hU => r_ld3 (b := bn) (o := 0) rfl (hU.2.cell 0)) ?_
      refine tkI 1 14 (v := .slice (some ⟨g, off, none⟩) len cap) hS1 rfl rfl (by kernel_rfl) (by kernel_rfl) (by kernel_rfl) (by kernel_rfl) rfl (fun _ _ _ h => h) (fun U hU => r_ld22 (b := bl) (o := 0) rfl (hU.1.cell 0)) ?_
      refine tkI 2 15 (v := .int .i64 (k6 : Nat)) hS1 rfl rfl (by kernel_rfl) (by kernel_rfl) (by kernel_rfl) (by kernel_rfl) rfl (fun _ _ _ h => h) (fun U hU => r_move rfl) ?_
      refine tkI 3 16 (v := .slice (some ⟨g, off + k6, none⟩) (len - k6) (cap - k6)) hS1 rfl rfl (by kernel_rfl) (by kernel_rfl) (by kernel_rfl) (by kernel_rfl) rfl (fun _ _ _ h => h) (fun U hU => r_lo22 k6 (b := g) (off := off) (len := len) (cap := cap) (k := .i64) rfl rfl (by omega) (by omega)) ?_
      refine tkI 4 17 (v := .int .i64 ((len - k6 : Nat) : Int)) hS1 rfl rfl (by kernel_rfl) (by kernel_rfl) (by kernel_rfl) (by kernel_rfl) rfl (fun _ _ _ h => h) (fun U hU => r_len22c (ao := some ⟨g, off + k6, none⟩) (c := cap - k6) rfl) ?_
      refine tkI 5 18 (v := .int .i64 (en : Nat)) hS1 rfl rfl (by kernel_rfl) (by kernel_rfl) (by kernel_rfl) (by kernel_rfl) rfl (fun _ _ _ h => h) (fun U hU => r_min3 (p := 64) (q := ((len - k6 : Nat) : Int)) rfl rfl Hen.out) ?_
      refine tkI 6 5 (v := .int .i64 (en : Nat)) hS1 rfl rfl (by kernel_rfl) (by kernel_rfl) (by kernel_rfl) (by kernel_rfl) rfl (fun _ _ _ h => h) (fun U hU => r_assign rfl) ?_
      refine doneI (by kernel_rfl) ?_
      simp only [put_lit, List.set_cons_succ, List.set_cons_zero]
      have c1 : w1.cell? ⟨bl, 0, none⟩ = some (.slice (some ⟨g, off, none⟩) len cap) := hS1.1.cell 0
      clear c0 cn
      gi_wp2_with (with_reducible refine stopi_slice 22 ?_)
      refine hide ?_
      refine wpListIn_run rfl rfl (fun _ => by simp) (r_cut22 (k := .i64) (j := .i64) (i := .i64) k6 (k6 + en) rfl rfl rfl rfl (by simp) (by omega) (by omega)) ?_
      rw [show k6 + en - k6 = en by omega]
      have hK1 := hKk.out.trans hk1 (fun _ _ h => h.elim)
      have hJ1 := (HJ.out _).none hJk.out hk1
      have hsz := hKk.out.size
      have hsz1 := hk1.size
      have hxlen : x.length = en := by rw [Hzx.out, Hen2.out, List.length_take, List.length_drop, ← Hlen.out, ← Hk6.out]
      have hsrc1 : Src w1 (.slice (some ⟨g, off + k6, none⟩) en en) x := by
        have hv1 := HV.out.keptC hK1 (fun j _ hj => fun h => by
          obtain ⟨o, _, _, e⟩ := hj
          cases e
          exact (HF0.out g h).1 hgX)
        obtain ⟨bo', cap', e, k1, k2, k3, k4⟩ := hv1
        cases e
        obtain ⟨sb, so, e, hcs⟩ := k3 (by have := Hlen.out; omega)
        cases e
        refine ⟨_, _, by rw [hxlen], by rw [hxlen]; exact Nat.le_refl _, fun y hy => k2 y (by rw [Hzx.out] at hy; exact List.mem_of_mem_drop (List.mem_of_mem_take hy)), fun _ => ⟨g, off + k6, rfl, ?_⟩, fun h => by cases h⟩
        have := hcs.part (64 * k) 64
        rw [← BV_drop, ← BV_take, ← Hzx.out, ← Hk6.out] at this
        exact this
      have hyc := HT.out _ x _ F (fun _ => False) (.slice (some ⟨g, off + k6, none⟩) en en) w1 Hzp.out hJ1 (by omega) hFk.out ⟨hsrc1, fun _ h => h, fun j _ hj => by
        obtain ⟨o, _, _, e⟩ := hj
        cases e
        exact hgX⟩ (fun _ h => h.elim)
      have Hyc := hide hyc
      have Hk1 := hide hk1
      obtain ⟨ox, hox⟩ : ∃ ox, ox = off + k6 := ⟨_, rfl⟩
      rw [← hox] at Hyc ⊢
      clear hyc hk1 hh1 hJ1 c1 hsrc1 hK1 hox hS1 hxlen
      try simp only [put_lit, put_none, List.set_cons_succ, List.set_cons_zero]
      gi_wp2_with (with_reducible refine stopi_val1 ?_)
      refine hide ?_
      try simp only [put_lit, put_none, List.set_cons_succ, List.set_cons_zero]
      refine ai_yc1 (yv := tv) (vy := .slice (some ⟨g, ox, none⟩) en en) rfl rfl rfl Hyc.out ?_
      rintro e w2 ⟨F', hcase, hk2, hF'⟩
      rw [← Hzs.out.1] at hcase
      have HK2 : Hid (Kept F0 W w2) := hide ((hKk.out.trans Hk1.out (fun _ _ h => h.elim)).trans hk2 (fun j hj h => by
        rcases h with h | h
        · exact (hFk.out j h).elim (fun h => h) (fun h => by omega)
        · exact h.elim))
      have HF2 : Hid (∀ k, F' k → F0 k ∨ W.heap.size ≤ k) := hide (fun j h => by
        rcases hF' j h with h | h | h
        · exact hFk.out j h
        · exact h.elim
        · exact .inr (by omega))
      rcases hcase with ⟨rfl, hJ4⟩ | ⟨rfl, hJ4⟩
      · have HJ4 := hide hJ4
        have cn : w2.cell? ⟨bn, 0, none⟩ = some (.int .i64 64) := (HK2.out.blk HBn.out (fun h => (HF0.out bn h).1 (.inr (.inl rfl)))).cell 0
        clear hJ4 hk2 hF' Hk1
        refine ⟨_, rfl, ?_⟩
        try simp only [put_lit, List.set_cons_succ, List.set_cons_zero]
        gi_wp2
        go_roundw
        case rel => exact ⟨k + 1, F', by have := Hk6.out; simp; omega, by omega, HJ4, HF2, HK2⟩
        case measure => simp [intOf]; have := Hk6.out; omega
      · have HJ4 := hide hJ4
        have Hpre : Hid (∃ post, xs = xs.take (k + 1) ++ post) := hide ⟨_, (List.take_append_drop _ _).symm⟩
        clear hJ4 hk2 hF' Hk1
        refine ⟨_, rfl, ?_⟩
        try simp only [put_lit, List.set_cons_succ, List.set_cons_zero]
        gi_wp2
        refine bodyPost_ret (results_none rfl _ _ _) rfl ?_
        exact ⟨⟨_, rfl⟩, false, HK2.out.mono (fun _ _ h => .inl h), .inr ⟨rfl, _, F', Hpre.out, HJ4.out, HF2.out, trivial⟩⟩
    · obtain rfl : c = k := by omega
      have hlti : ¬ (k6 : Int) < (len : Int) := by omega
      have Htk : Hid (xs.take c = xs) := hide (List.take_of_length_le (by rw [Hxl.out]; exact Nat.le_refl _))
      clear hk6
      gi_wp2
      go_end0
      refine ⟨⟨_, rfl⟩, true, hKk.out.mono (fun _ _ h => .inl h), .inl ⟨rfl, F, ?_, hFk.out, trivial⟩⟩
      have := hJk.out
      rwa [Htk.out] at this
/-- The sequence of the sectors of some bytes. -/
theorem chunk_ok {B : List Nat} {bl bn : Nat} {v : Value} {W : World} (hbl : Blk W bl [v] 22) (hbn : Blk W bn [.int .i64 64] 3) (hv : Src W v B) (hl : B.length ≤ 1000000) :
    SeqOk Try.prog (.func (.func 74) #[] #[.pointer (some ⟨bl, 0, none⟩), .pointer (some ⟨bn, 0, none⟩)]) (EC (chX bl bn B v)) (chunkN B) (chX bl bn B v) (fun _ => False) (fun _ _ _ => True) W := by
  refine ⟨.inl ⟨_, _, rfl⟩, ?_, fun _ _ h => h, EC.ok _, fun _ _ _ _ _ _ _ _ => trivial, ?_⟩
  · rintro k ((h | h | h) | h)
    · rw [h]; exact hbl.lt
    · rw [h]; exact hbn.lt
    · exact hv.vlt h.1 h.2
    · exact h.elim
  · intro _ W' S hk hS
    exact chunk1_at (hk.blk hbl (fun h => (hS _ h).1 (.inl rfl))) (hk.blk hbn (fun h => (hS _ h).1 (.inr (.inl rfl)))) (hv.keptC hk (fun k h0 hx hs => (hS k hs).1 (.inr (.inr ⟨h0, hx⟩)))) hl
set_option maxHeartbeats 1000000 in
theorem chunk_at (W : World) (v : Value) (hv : v.cells = #[v]) : Calls Try.prog 61 #[v, .int .i64 64] W fun e W' => ∃ bl bn, e = .returned (.func (.func 74) #[] #[.pointer (some ⟨bl, 0, none⟩), .pointer (some ⟨bn, 0, none⟩)]) ∧ Blk W' bl [v] 22 ∧ Blk W' bn [.int .i64 64] 3 ∧ Kept (fun _ => False) W W' ∧ W.heap.size ≤ bl ∧ W.heap.size ≤ bn := by
  have Hv := hide hv
  clear hv
  go_enter Try.func61, Try.ntmps61
  go_wp2_with (first
    | ((with_reducible refine aw_box (t := 22) (v := v) rfl ?_); intro w1 hb1 hk1 hz1; have Hz1 := hide hz1; have Hb1 := hide hb1; have Hk1 := hide hk1; clear hz1 hb1 hk1)
    | ((with_reducible refine aw_box (t := 3) (v := .int .i64 64) rfl ?_); intro w2 hb2 hk2 hz2; have Hz2 := hide hz2; have Hb2 := hide hb2; have Hk2 := hide hk2; have c0 : w2.cell? ⟨w1.heap.size, 0, none⟩ = some (.int .i64 64) := hb2.cell 0; clear hz2 hb2 hk2))
  go_ret
  have hz1 := Hz1.out
  have hb1 := Hb1.out
  rw [Hv.out] at hb1
  exact ⟨_, _, rfl, Hk2.out.blk hb1 (fun h => h), Hb2.out, Hk1.out.trans Hk2.out (fun _ _ h => h), Nat.le_refl _, by omega⟩
end Go.Proofs.Ytbbhchmdggfncaa


/-
  Sorted lists of keys and values, without memory: where a key stands, put, delete; their cells. Nothing of a program's dump is used here.
-/
namespace Go.Proofs.Ytbbhchmdggfncaa
set_option linter.unusedSimpArgs false
set_option linter.unusedVariables false
set_option maxRecDepth 100000

section
variable {κ ν : Type}
/-- A strict order in which any two keys stand apart. -/
structure Strict (lt : κ → κ → Bool) : Prop where
  irr : ∀ a, lt a a = false
  tr : ∀ a b c, lt a b = true → lt b c = true → lt a c = true
  tri : ∀ a b, lt a b = false → lt b a = false → a = b

def Sorted (lt : κ → κ → Bool) (l : List (κ × ν)) : Prop := l.Pairwise fun a b => lt a.1 b.1 = true
def posK (lt : κ → κ → Bool) (l : List (κ × ν)) (k : κ) : Nat := (l.takeWhile fun e => lt e.1 k).length
def hasK (lt : κ → κ → Bool) (l : List (κ × ν)) (k : κ) : Bool := match l[posK lt l k]? with
  | some e => !lt k e.1
  | none => false
def insK (l : List (κ × ν)) (i : Nat) (e : κ × ν) : List (κ × ν) := l.take i ++ e :: l.drop i
def putK (lt : κ → κ → Bool) (l : List (κ × ν)) (k : κ) (v : ν) : List (κ × ν) := if hasK lt l k then l.set (posK lt l k) (k, v) else insK l (posK lt l k) (k, v)
variable {lt : κ → κ → Bool} {l : List (κ × ν)} {k : κ} {v : ν}

theorem posK_le (lt : κ → κ → Bool) (l : List (κ × ν)) (k : κ) : posK lt l k ≤ l.length := (List.takeWhile_sublist _).length_le
theorem lt_of_posK : ∀ (l : List (κ × ν)) (j : Nat) (h : j < l.length), j < posK lt l k → lt l[j].1 k = true
  | e :: l, 0, h, hp => by
    unfold posK at hp
    cases he : lt e.1 k with
    | true => exact he
    | false => simp [List.takeWhile_cons, he] at hp
  | e :: l, j + 1, h, hp => by
    unfold posK at hp
    cases he : lt e.1 k with
    | true =>
      simp [List.takeWhile_cons, he] at hp
      exact lt_of_posK l j (by simpa using h) hp
    | false => simp [List.takeWhile_cons, he] at hp
theorem not_lt_posK : ∀ (l : List (κ × ν)) (h : posK lt l k < l.length), lt l[posK lt l k].1 k = false
  | [], h => by simp at h
  | e :: l, h => by
    cases he : lt e.1 k with
    | true =>
      have hp : posK lt (e :: l) k = posK lt l k + 1 := by simp [posK, List.takeWhile_cons, he]
      simp only [hp] at h ⊢
      exact not_lt_posK l (by simpa using h)
    | false =>
      have hp : posK lt (e :: l) k = 0 := by simp [posK, List.takeWhile_cons, he]
      simp only [hp]
      exact he
theorem Sorted.get (hs : Sorted lt l) {i j : Nat} (hi : i < l.length) (hj : j < l.length) (h : i < j) : lt l[i].1 l[j].1 = true := List.pairwise_iff_getElem.1 hs i j hi hj h
theorem Sorted.mono (ho : Strict lt) (hs : Sorted lt l) {i j : Nat} (hj : j < l.length) (hij : i ≤ j) (h : lt l[j].1 k = true) : lt (l[i]'(by omega)).1 k = true := by
  rcases Nat.eq_or_lt_of_le hij with rfl | h'
  · exact h
  · exact ho.tr _ _ _ (hs.get (by omega) hj h') h
theorem hasK_lt (h : hasK lt l k = true) : posK lt l k < l.length := by
  unfold hasK at h
  rcases Nat.lt_or_ge (posK lt l k) l.length with h' | h'
  · exact h'
  · rw [List.getElem?_eq_none h'] at h; cases h
theorem hasK_key (ho : Strict lt) (h : hasK lt l k = true) : (l[posK lt l k]'(hasK_lt h)).1 = k := by
  have hl := hasK_lt h
  have h1 := not_lt_posK (lt := lt) (k := k) l hl
  unfold hasK at h
  rw [List.getElem?_eq_getElem hl] at h
  exact ho.tri _ _ h1 (by simpa using h)
theorem hasK_get (h : posK lt l k < l.length) : hasK lt l k = !lt k l[posK lt l k].1 := by
  unfold hasK; rw [List.getElem?_eq_getElem h]
theorem Sorted.put (ho : Strict lt) (hs : Sorted lt l) (k : κ) (v : ν) : Sorted lt (putK lt l k v) := by
  unfold putK
  split
  · rename_i hh
    have hk := hasK_key ho hh
    unfold Sorted
    rw [List.pairwise_iff_getElem]
    intro i j hi hj hij
    simp only [List.length_set] at hi hj
    have hg : ∀ n (hn : n < l.length), ((l.set (posK lt l k) (k, v))[n]'(by simpa using hn)).1 = l[n].1 := by
      intro n hn
      rw [List.getElem_set]
      split
      · rename_i e; subst e; exact hk.symm
      · rfl
    rw [hg i hi, hg j hj]
    exact hs.get hi hj hij
  · rename_i hh
    have hp := posK_le lt l k
    unfold insK Sorted
    rw [List.pairwise_append]
    have htd := List.take_append_drop (posK lt l k) l
    have hs' := hs
    unfold Sorted at hs'
    rw [← htd, List.pairwise_append] at hs'
    obtain ⟨h1, h2, h3⟩ := hs'
    have hb : ∀ x ∈ l.take (posK lt l k), lt x.1 k = true := by
      intro x hx
      obtain ⟨i, hi, rfl⟩ := List.getElem_of_mem hx
      simp only [List.length_take] at hi
      simp only [List.getElem_take]
      exact lt_of_posK l i (by omega) (by omega)
    have ha : ∀ x ∈ l.drop (posK lt l k), lt k x.1 = true := by
      intro x hx
      obtain ⟨i, hi, rfl⟩ := List.getElem_of_mem hx
      simp only [List.length_drop] at hi
      simp only [List.getElem_drop]
      have hl : posK lt l k < l.length := by omega
      have h0 : lt k (l[posK lt l k]).1 = true := by
        have := hasK_get (lt := lt) (l := l) (k := k) hl
        cases hx2 : lt k (l[posK lt l k]).1 with
        | true => rfl
        | false => rw [hx2] at this; exact absurd this hh
      by_cases e : i = 0
      · subst e; simpa using h0
      · exact ho.tr _ _ _ h0 (hs.get hl (by omega) (by omega))
    refine ⟨h1, ?_, ?_⟩
    · rw [List.pairwise_cons]
      exact ⟨fun x hx => ha x hx, h2⟩
    · intro x hx y hy
      rcases List.mem_cons.1 hy with rfl | hy
      · exact hb x hx
      · exact ho.tr _ _ _ (hb x hx) (ha y hy)
end

section
variable {κ ν : Type} (ek : κ → Value) (ev : ν → Value)
/-- The cells of some entries. -/
def encE : List (κ × ν) → List Value
  | [] => []
  | e :: l => ek e.1 :: ev e.2 :: encE l
variable {ek ev}
theorem encE_length : ∀ l : List (κ × ν), (encE ek ev l).length = l.length * 2
  | [] => rfl
  | e :: l => by simp [encE, encE_length l]; omega
theorem encE_append : ∀ a b : List (κ × ν), encE ek ev (a ++ b) = encE ek ev a ++ encE ek ev b
  | [], b => rfl
  | e :: a, b => by simp [encE, encE_append a b]
theorem encE_key : ∀ (l : List (κ × ν)) (i : Nat) (h : i < l.length), (encE ek ev l)[i * 2]? = some (ek l[i].1)
  | e :: l, 0, h => by simp [encE]
  | e :: l, i + 1, h => by rw [show (i + 1) * 2 = i * 2 + 1 + 1 by omega]; simpa [encE] using encE_key l i (by simpa using h)
theorem encE_val : ∀ (l : List (κ × ν)) (i : Nat) (h : i < l.length), (encE ek ev l)[i * 2 + 1]? = some (ev l[i].2)
  | e :: l, 0, h => by simp [encE]
  | e :: l, i + 1, h => by rw [show (i + 1) * 2 + 1 = i * 2 + 1 + 1 + 1 by omega]; simpa [encE] using encE_val l i (by simpa using h)
end

theorem Strict.int : Strict (fun a b : Int => decide (a < b)) :=
  ⟨fun a => by simp, fun a b c h k => by simp at *; omega, fun a b h k => by simp at *; omega⟩

theorem toList_inj {a b : ByteArray} (h : a.toList = b.toList) : a = b := by
  rw [ByteArray.toList_eq, ByteArray.toList_eq] at h
  exact ByteArray.ext (Array.toList_inj.1 h)

end Go.Proofs.Ytbbhchmdggfncaa


/-
  Slices in memory, pairs of an int and a slice in a row, without the package order.
-/
namespace Go.Proofs.Ytbbhchmdggfncaa
open Go.RowKit Go.Shelf
set_option linter.unusedSimpArgs false
set_option linter.unusedVariables false
set_option maxRecDepth 100000

/-- A slice: where it lies, how long it is, how much room it has. -/
structure Sl where
  a : Option Addr
  n : Nat
  c : Nat
abbrev Sl.v (s : Sl) : Value := .slice s.a s.n s.c
abbrev ekB (k : Int) : Value := .int .i64 k
abbrev evB (v : Sl) : Value := .slice v.a v.n v.c
abbrev EntB := Int × Sl
theorem stop_app2 {P : Program} {ops : Array Oper} {Q : Exit → Act → World → Prop} {a : Act} {w : World} {rest : List Oper} {dst : Option Tmp} {ty : TypeId} {pos : String} {aft : Array Edge} {x y : Operand} (t u : TypeId) (h : Hid (wpList P ops Q (⟨dst, .call { callee := .builtin .append, args := #[x, y], argTypes := #[t, u] }, ty, pos, aft, none⟩ :: rest) a w)) : wpList P ops Q (⟨dst, .call { callee := .builtin .append, args := #[x, y], argTypes := #[t, u] }, ty, pos, aft, none⟩ :: rest) a w := h.out
/-- v is a slice that holds the entries l. -/
def SrcEB (W : World) (v : Value) (l : List EntB) : Prop := ∃ ao cap, v = .slice ao l.length cap ∧ l.length ≤ cap ∧ (0 < l.length → ∃ g off, ao = some ⟨g, off, none⟩ ∧ Cells W g off (encE ekB evB l))
theorem Blk.isCells {w : World} {b : Nat} {L : List Value} {t : TypeId} (h : Blk w b L t) : IsCells w b := ⟨_, _, _, h⟩
end Go.Proofs.Ytbbhchmdggfncaa


/-
  Writes that are merged, records and their bytes: plain functions over lists. No condition beyond each law's own premises.
-/
namespace Go.Proofs.Ytbbhchmdggfncaa
set_option linter.unusedSimpArgs false
set_option linter.unusedVariables false
set_option maxRecDepth 100000

structure Wr where
  blk : Int
  B : List Nat
end Go.Proofs.Ytbbhchmdggfncaa
