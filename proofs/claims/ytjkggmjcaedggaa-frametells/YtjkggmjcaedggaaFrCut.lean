/-
  The statements' own sequence: bytes in sectors, and how many were asked for.
-/
import Derived.Test.YtjkggmjcaedggaaFrTame
namespace Go.Proofs.Ytjkggmjcaedggaa
open Go.RowKit Go.Shelf
set_option linter.unusedSimpArgs false
set_option linter.unusedVariables false
attribute [local go_sem] Oper.semAt_some

theorem Src.keptX {S : NSet} {w w' : World} {v : Value} {B : List Nat} (h : Src w v B) (hk : Kept S w w') (hn : ∀ k, 0 < B.length → vX v k → ¬ S k) : Src w' v B := by
  obtain ⟨bo, cap, rfl, h1, h2, h3, h4⟩ := h
  refine ⟨bo, cap, rfl, h1, h2, fun h => ?_, h4⟩
  obtain ⟨sb, so, rfl, hc⟩ := h3 h
  exact ⟨sb, so, rfl, hk.cells hc (hn sb h ⟨so, _, _, rfl⟩)⟩
/-- A slice that is read, in blocks of X. -/
def EC (X : NSet) : EncR (List Nat) := fun x v G W => Src W v x ∧ (∀ k, ¬ G k) ∧ ∀ k, 0 < x.length → vX v k → X k
theorem EC.ok (X : NSet) : EOk X (EC X) := fun x v G W W' S h hk hS => ⟨h.1.keptX hk (fun k h1 h2 h3 => (hS k h3).2 (h.2.2 k h1 h2)), h.2.1, h.2.2⟩
section
variable {n : Nat} {P : Program} {ops : Array Oper} {Q : Exit → Act → World → Prop} {a : Act} {w : World} {rest : List Oper} {dst : Option Tmp} {ty : TypeId} {pos : String} {aft : Array Edge} {x y : Operand} {F : Fence}
theorem stopi_min (h : Hid (wpListIn F n P ops Q (⟨dst, .call { callee := .builtin .min, args := #[x, y], argTypes := #[3, 3] }, ty, pos, aft, none⟩ :: rest) a w)) : wpListIn F n P ops Q (⟨dst, .call { callee := .builtin .min, args := #[x, y], argTypes := #[3, 3] }, ty, pos, aft, none⟩ :: rest) a w := h.out
theorem stopi_slice (t : TypeId) {l h m : Option Operand} (hh : Hid (wpListIn F n P ops Q (⟨dst, .slice t x l h m, ty, pos, aft, none⟩ :: rest) a w)) : wpListIn F n P ops Q (⟨dst, .slice t x l h m, ty, pos, aft, none⟩ :: rest) a w := hh.out
end
theorem r_mid22 {ρ : Operand → Value} {w : World} {dst : Option Tmp} {ty : TypeId} {pos : String} {aft : Array Edge} {gd : Option (Nat × Bool)} {x y z : Operand} {sb so len cap : Nat} (l h : Nat) {k j : IntKind} (hx : ρ x = .slice (some ⟨sb, so, none⟩) len cap) (hy : ρ y = .int k l) (hz : ρ z = .int j h) (hl : l < h) (hh : h ≤ cap) :
    (execOp ρ ⟨dst, .slice 22 x (some y) (some z) none, ty, pos, aft, gd⟩).run Try.prog w = .ok (.value (.slice (some ⟨sb, so + l, none⟩) (h - l) (cap - l))) w := by
  obtain ⟨i5, hi5, hz5, hs5, hb5⟩ := info_parts Try.info5
  have g1 : (0 : Int) ≤ (h : Int) ∧ (h : Int) ≤ (cap : Int) := by omega
  have g2 : (0 : Int) ≤ (l : Int) ∧ (l : Int) ≤ (h : Int) := by omega
  have g3 : l ≤ h := by omega
  have hc : ¬ cap = l := by omega
  simp [execOp, Instr.sliceAt, run_underlying Try.underlying22, Instr.slice, hx, hy, hz, Instr.sliceBounds, Instr.sliceBound, asIntOf, g1, g2, g3, hh, sizeOf, typeInfo, hi5, hc, hs5, addr_add]

/-- What 'cut' reads. -/
def cutX (bl bp : Nat) (B : List Nat) (v : Value) (k : Nat) : Prop := k = bl ∨ k = bp ∨ (0 < B.length ∧ vX v k)
def cutP (bc n0 : Nat) (b : Bool) (pre : List (List Nat)) (W : World) : Prop := Blk W bc [.int .i64 ((n0 + pre.length : Nat) : Int)] 3

set_option maxRecDepth 100000 in
set_option maxHeartbeats 2000000 in
theorem cut1_at {B : List Nat} {bl bp bc n0 : Nat} {v : Value} {W : World} (hbl : Blk W bl [v] 22) (hbp : Blk W bp [.pointer (some ⟨bc, 0, none⟩)] 42) (hbc : Blk W bc [.int .i64 (n0 : Int)] 3) (hv : Src W v B) (hl : B.length ≤ 1000000) (hn0 : n0 ≤ 1000000) (hap : ∀ k, cutX bl bp B v k → k ≠ bc) :
    FSeqAt Try.prog (.func (.func 35) #[] #[.pointer (some ⟨bl, 0, none⟩), .pointer (some ⟨bp, 0, none⟩)]) (EC (cutX bl bp B v)) (chunkN B) (cutX bl bp B v) (fun k => k = bc) (cutP bc n0) W := by
  intro tv J Jx F0 htv hJ hJx hF0 ht h0
  obtain ⟨i3, hi3, hz3, hs3, hb3⟩ := info_parts Try.info3
  have Hi3 := hide hi3
  have Hs3 := hide hs3
  have HJ := hide hJ
  have HT := hide ht
  have H0 := hide h0
  have HF0 := hide hF0
  have HBl := hide hbl
  have HBp := hide hbp
  have HBc := hide hbc
  have Hap := hide hap
  have HV := hide hv
  have hltl := hbl.lt
  have hltp := hbp.lt
  have hltc := hbc.lt
  have hpc : bp ≠ bc := hap bp (.inr (.inl rfl))
  have hlc : bl ≠ bc := hap bl (.inl rfl)
  obtain ⟨c, hc⟩ : ∃ c, c = (B.length + 63) / 64 := ⟨_, rfl⟩
  have hxl : (chunkN B).length = c := by rw [chunkN_length, hc]
  have hxk : ∀ k (h : k < (chunkN B).length), (chunkN B)[k] = (B.drop (64 * k)).take 64 := fun k h => by simp [chunkN]
  have Hxl := hide hxl
  have Hxk := hide hxk
  obtain ⟨xs, hxs⟩ : ∃ xs, xs = chunkN B := ⟨_, rfl⟩
  rw [← hxs] at HT Hxl Hxk ⊢
  obtain ⟨bo, cap, rfl, hcap, -, hsrc, -⟩ := hv
  obtain ⟨len, hlen⟩ : ∃ len, len = B.length := ⟨_, rfl⟩
  have Hlen := hide hlen
  have HSrc := hide hsrc
  rw [← hlen] at hcap hl hc HBl HF0 Hap HV HSrc HT
  have hc1 : 64 * c < len + 64 := by omega
  have hc2 : len ≤ 64 * c := by omega
  clear hJ hJx ht h0 hF0 hbl hbp hbc hi3 hz3 hs3 hb3 hap hxl hxk hxs hsrc hlen hc
  refine .inl ⟨_, _, rfl, enters_of Try.func35 (by kernel_rfl) rfl, ?_⟩
  show Calls Try.prog 35 #[tv, .pointer (some ⟨bl, 0, none⟩), .pointer (some ⟨bp, 0, none⟩)] W _
  refine (callsIn_wide (n := 4)).1 (callsIn_of_wp Try.func35 rfl trivial ?_ rfl)
  simp only [Try.ntmps35, List.size_toArray, List.length_cons, List.length_nil, Nat.reduceAdd, Nat.reduceSub, Array.replicate_succ, Array.replicate_zero, List.push_toArray, List.append_toArray, List.nil_append, List.cons_append]
  gi_wp2
  gi_loopw [4] (fun i wr => ∃ (k m : Nat) (F : NSet), i = .int .i64 k ∧ k ≤ c ∧ Hid (J (xs.take k) F wr) ∧ Hid (∀ k, F k → F0 k ∨ W.heap.size ≤ k) ∧ Hid (Kept (fun j => F0 j ∨ j = bc) W wr) ∧ Hid (m = n0 + k) ∧ Hid (Blk wr bc [.int .i64 (m : Nat)] 3))
    (fun i _ => c - (intOf i).toNat)
  case atStart => exact ⟨0, n0, F0, rfl, Nat.zero_le _, hide H0.out, hide (fun k h => .inl h), hide (Kept.refl _ _), hide rfl, HBc⟩
  case round =>
    obtain ⟨k, m, F, rfl, hk, hJk, hFk, hKk, hMk, hBk⟩ := hrel
    have hm : m ≤ 2000000 := by have := hMk.out; omega
    have hbl2 := hKk.out.blk HBl.out (fun h => h.elim (fun h => (HF0.out bl h).1 (.inl rfl)) (fun h => hlc h))
    have c0 : wr.cell? ⟨bl, 0, none⟩ = some (.slice bo len cap) := hbl2.cell 0
    by_cases hlt2 : k < c
    · have hlt : 64 * k < len := by omega
      have hlt' : 64 * (k : Int) < (len : Int) := by omega
      obtain ⟨g, off, rfl, hcs⟩ := HSrc.out (by omega)
      have hkx : k < xs.length := by rw [Hxl.out]; exact hlt2
      have hgX : cutX bl bp B (.slice (some ⟨g, off, none⟩) len cap) g := .inr (.inr ⟨by have := Hlen.out; omega, off, _, _, rfl⟩)
      have hbp2 := hKk.out.blk HBp.out (fun h => h.elim (fun h => (HF0.out bp h).1 (.inr (.inl rfl))) (fun h => hpc h))
      have c1 : wr.cell? ⟨bp, 0, none⟩ = some (.pointer (some ⟨bc, 0, none⟩)) := hbp2.cell 0
      have c2 : wr.cell? ⟨bc, 0, none⟩ = some (.int .i64 (m : Nat)) := hBk.out.cell 0
      have Hzs : Hid (xs.take (k + 1) = xs.take k ++ [xs[k]] ∧ (xs.take (k + 1)).length = k + 1) := hide ⟨List.take_succ_eq_append_getElem hkx, by rw [List.length_take]; omega⟩
      have Hzp : Hid (xs = xs.take k ++ xs[k] :: xs.drop (k + 1)) := hide (by rw [List.getElem_cons_drop, List.take_append_drop])
      have Hzx : Hid (xs[k] = (B.drop (64 * k)).take 64) := hide (Hxk.out k hkx)
      obtain ⟨x, hx⟩ : ∃ x, x = xs[k] := ⟨_, rfl⟩
      rw [← hx] at Hzs Hzp Hzx
      clear hx hcs hbp2 hbl2
      gi_wp2_with (with_reducible refine stopi_store 3 ?_)
      refine hide ?_
      refine ai_store1 (v := .int .i64 ((m : Int) + 1)) Hi3.out Hs3.out rfl rfl rfl rfl hBk.out (by simp) ?_
      intro w1 hb1 hk1 hz1
      have hb1' : Blk w1 bc [.int .i64 ((m + 1 : Nat) : Int)] 3 := hb1
      have hFc : ¬ F bc := fun h => by
        rcases hFk.out bc h with h | h
        · exact (HF0.out bc h).2 rfl
        · omega
      have hJ1 := (HJ.out _).kept _ _ _ _ hJk.out hk1 (fun j h1 h2 => hFc (h1 ▸ h2)) (fun j h1 h2 => h1)
      have hsz := hKk.out.size
      have hK1 := hKk.out.trans hk1 (fun j hj h => .inr h)
      have c0' : w1.cell? ⟨bl, 0, none⟩ = some (.slice (some ⟨g, off, none⟩) len cap) := (hK1.blk HBl.out (fun h => h.elim (fun h => (HF0.out bl h).1 (.inl rfl)) (fun h => hlc h))).cell 0
      obtain ⟨h, hh⟩ : ∃ h, h = min (64 * k + 64) len := ⟨_, rfl⟩
      have hsrc1 : Src w1 (.slice (some ⟨g, off + 64 * k, none⟩) (h - 64 * k) (cap - 64 * k)) x := by
        have hv1 := HV.out.keptX hK1 (fun j _ hj => fun h => by
          obtain ⟨o, _, _, e⟩ := hj
          cases e
          exact h.elim (fun h => (HF0.out g h).1 hgX) (fun h => Hap.out g hgX h))
        obtain ⟨bo', cap', e, k1, k2, k3, k4⟩ := hv1
        cases e
        obtain ⟨sb, so, e, hcs⟩ := k3 (by have := Hlen.out; omega)
        cases e
        have hxlen : x.length = h - 64 * k := by rw [Hzx.out]; simp; have := Hlen.out; omega
        refine ⟨_, _, by rw [hxlen], by rw [hxlen]; omega, fun y hy => k2 y (by rw [Hzx.out] at hy; exact List.mem_of_mem_drop (List.mem_of_mem_take hy)), fun _ => ⟨g, off + 64 * k, rfl, ?_⟩, fun h => by cases h⟩
        have := hcs.part (64 * k) 64
        rw [← BV_drop, ← BV_take, ← Hzx.out] at this
        exact this
      have hyc := HT.out _ x _ F (fun _ => False) (.slice (some ⟨g, off + 64 * k, none⟩) (h - 64 * k) (cap - 64 * k)) w1 Hzp.out hJ1 (by omega) hFk.out ⟨hsrc1, fun _ h => h, fun j _ hj => by
        obtain ⟨o, _, _, e⟩ := hj
        cases e
        exact hgX⟩ (fun _ h => h.elim)
      have Hyc := hide hyc
      have HB1 := hide hb1'
      have Hk1 := hide hk1
      have Hz1 := hide hz1
      have hh1 : 64 * k < h := by omega
      have hh2 : h ≤ cap := by omega
      have Hh : Hid (min ((64 : Int) * k + 64) len = (h : Nat)) := hide (by omega)
      clear hyc hb1 hb1' hk1 hz1 hJ1 c0 c1 c2 hsrc1 hK1 hh
      try simp only [put_lit, put_none, List.set_cons_succ, List.set_cons_zero]
      gi_wp2_with (with_reducible refine stopi_min ?_)
      refine hide ?_
      try simp only [put_lit, put_none, List.set_cons_succ, List.set_cons_zero]
      refine wpListIn_run rfl rfl (fun _ => by simp) (r_min3 (r := (h : Nat)) rfl rfl Hh.out) ?_
      try simp only [put_lit, put_none, List.set_cons_succ, List.set_cons_zero]
      gi_wp2_with (with_reducible refine stopi_slice 22 ?_)
      refine hide ?_
      try simp only [put_lit, put_none, List.set_cons_succ, List.set_cons_zero]
      refine wpListIn_run rfl rfl (fun _ => by simp) (r_mid22 (k := .i64) (j := .i64) (64 * k) h rfl (by simp [Act.eval]) rfl hh1 hh2) ?_
      obtain ⟨hx, hhx⟩ : ∃ hx, hx = h - 64 * k := ⟨_, rfl⟩
      obtain ⟨cx, hcx⟩ : ∃ cx, cx = cap - 64 * k := ⟨_, rfl⟩
      obtain ⟨ox, hox⟩ : ∃ ox, ox = off + 64 * k := ⟨_, rfl⟩
      rw [← hhx, ← hcx, ← hox] at Hyc ⊢
      clear hhx hcx hox
      try simp only [put_lit, put_none, List.set_cons_succ, List.set_cons_zero]
      gi_wp2_with (with_reducible refine stopi_val1 ?_)
      refine hide ?_
      try simp only [put_lit, put_none, List.set_cons_succ, List.set_cons_zero]
      refine ai_yc1 (yv := tv) (vy := .slice (some ⟨g, ox, none⟩) hx cx) rfl rfl rfl Hyc.out ?_
      rintro e w2 ⟨F', hcase, hk2, hF'⟩
      rw [← Hzs.out.1] at hcase
      have hz1 := Hz1.out
      have HK2 : Hid (Kept (fun j => F0 j ∨ j = bc) W w2) := hide ((hKk.out.trans Hk1.out (fun j hj h => .inr h)).trans hk2 (fun j hj h => by
        rcases h with h | h
        · exact (hFk.out j h).elim .inl (fun h => by omega)
        · exact h.elim))
      have HF2 : Hid (∀ k, F' k → F0 k ∨ W.heap.size ≤ k) := hide (fun j h => by
        rcases hF' j h with h | h | h
        · exact hFk.out j h
        · exact h.elim
        · exact .inr (by omega))
      have HB2 := hide (hk2.blk HB1.out (fun h => h.elim hFc (fun h => h)))
      have HM2 : Hid (m + 1 = n0 + (k + 1)) := hide (by have := hMk.out; omega)
      rcases hcase with ⟨rfl, hJ4⟩ | ⟨rfl, hJ4⟩
      · have HJ4 := hide hJ4
        clear hJ4 hk2 hF'
        refine ⟨_, rfl, ?_⟩
        try simp only [put_lit, List.set_cons_succ, List.set_cons_zero]
        gi_wp2
        go_roundw
        case rel => exact ⟨k + 1, m + 1, F', by simp, by omega, HJ4, HF2, HK2, HM2, HB2⟩
        case measure => simp [intOf]; omega
      · have HJ4 := hide hJ4
        have Hpre : Hid (∃ post, xs = xs.take (k + 1) ++ post) := hide ⟨_, (List.take_append_drop _ _).symm⟩
        clear hJ4 hk2 hF'
        refine ⟨_, rfl, ?_⟩
        try simp only [put_lit, List.set_cons_succ, List.set_cons_zero]
        gi_wp2
        refine bodyPost_ret (results_none rfl _ _ _) rfl ?_
        exact ⟨⟨_, rfl⟩, false, HK2.out, .inr ⟨rfl, _, F', Hpre.out, HJ4.out, HF2.out, by unfold cutP; rw [Hzs.out.2, ← HM2.out]; exact HB2.out⟩⟩
    · obtain rfl : c = k := by omega
      have hlt' : ¬ 64 * (c : Int) < (len : Int) := by omega
      have Htk : Hid (xs.take c = xs) := hide (List.take_of_length_le (by rw [Hxl.out]; exact Nat.le_refl _))
      gi_wp2
      go_end0
      refine ⟨⟨_, rfl⟩, true, hKk.out, .inl ⟨rfl, F, ?_, hFk.out, ?_⟩⟩
      · have := hJk.out
        rwa [Htk.out] at this
      · unfold cutP; rw [Hxl.out, ← hMk.out]; exact hBk.out
theorem Src.vlt {w : World} {v : Value} {B : List Nat} (h : Src w v B) (h0 : 0 < B.length) {k : Nat} (hk : vX v k) : k < w.heap.size := by
  obtain ⟨off, n, c, rfl⟩ := hk
  obtain ⟨bo, cap, e, h1, h2, h3, h4⟩ := h
  cases e
  obtain ⟨sb, so, e, hc⟩ := h3 h0
  cases e
  have := hc 0 _ (BV_get B 0 h0)
  exact World.block_lt_of_cell? w _ this
theorem cut_ok {B : List Nat} {bl bp bc n0 : Nat} {v : Value} {W : World} (hbl : Blk W bl [v] 22) (hbp : Blk W bp [.pointer (some ⟨bc, 0, none⟩)] 42) (hbc : Blk W bc [.int .i64 (n0 : Int)] 3) (hv : Src W v B) (hl : B.length ≤ 1000000) (hn0 : n0 ≤ 1000000) (hap : ∀ k, cutX bl bp B v k → k ≠ bc) :
    SeqOk Try.prog (.func (.func 35) #[] #[.pointer (some ⟨bl, 0, none⟩), .pointer (some ⟨bp, 0, none⟩)]) (EC (cutX bl bp B v)) (chunkN B) (cutX bl bp B v) (fun k => k = bc) (cutP bc n0) W := by
  refine ⟨.inl ⟨_, _, rfl⟩, ?_, hap, EC.ok _, fun b pre W W' S h hk hS => hk.blk h (fun h => hS _ h rfl), ?_⟩
  · rintro k ((h | h | h) | h)
    · rw [h]; exact hbl.lt
    · rw [h]; exact hbp.lt
    · exact hv.vlt h.1 h.2
    · rw [h]; exact hbc.lt
  · intro _ W' S hk hS
    exact cut1_at (hk.blk hbl (fun h => (hS _ h).1 (.inl rfl))) (hk.blk hbp (fun h => (hS _ h).1 (.inr (.inl rfl)))) (hk.blk hbc (fun h => (hS _ h).2 rfl)) (hv.keptX hk (fun k h0 hx hs => (hS k hs).1 (.inr (.inr ⟨h0, hx⟩)))) hl hn0 hap
set_option maxHeartbeats 1000000 in
theorem lcut_at (W : World) (v : Value) (bc : Nat) (hv : v.cells = #[v]) : Calls Try.prog 16 #[v, .pointer (some ⟨bc, 0, none⟩)] W fun e W' => ∃ bl bp, e = .returned (.func (.func 35) #[] #[.pointer (some ⟨bl, 0, none⟩), .pointer (some ⟨bp, 0, none⟩)]) ∧ Blk W' bl [v] 22 ∧ Blk W' bp [.pointer (some ⟨bc, 0, none⟩)] 42 ∧ Kept (fun _ => False) W W' ∧ W.heap.size ≤ bl ∧ W.heap.size ≤ bp := by
  have Hv := hide hv
  clear hv
  go_enter Try.func16, Try.ntmps16
  go_wp2_with (first
    | ((with_reducible refine aw_box (t := 22) (v := v) rfl ?_); intro w1 hb1 hk1 hz1; have Hz1 := hide hz1; have Hb1 := hide hb1; have Hk1 := hide hk1; clear hz1 hb1 hk1)
    | ((with_reducible refine aw_box (t := 42) (v := .pointer (some ⟨bc, 0, none⟩)) rfl ?_); intro w2 hb2 hk2 hz2; have Hz2 := hide hz2; have Hb2 := hide hb2; have Hk2 := hide hk2; clear hz2 hb2 hk2))
  go_ret
  have hz1 := Hz1.out
  have hb1 := Hb1.out
  rw [Hv.out] at hb1
  exact ⟨_, _, rfl, Hk2.out.blk hb1 (fun h => h), Hb2.out, Hk1.out.trans Hk2.out (fun _ _ h => h), Nat.le_refl _, by omega⟩
end Go.Proofs.Ytjkggmjcaedggaa
