/-
  FlowMakes' own functions: a sequence that counts, below, and the rest.
-/
import Derived.Test.YtgeffdoepcbhiaaRefR
import Derived.Test.YtgeffdoepcbhiaaMapI
import Derived.Test.YtgeffdoepcbhiaaUntilI
import Derived.Test.YtgeffdoepcbhiaaJoinI
import Derived.Test.YtgeffdoepcbhiaaFindI
import Derived.Test.YtgeffdoepcbhiaaListL
namespace Go.Proofs.Ytgeffdoepcbhiaa
open Go.RowKit Go.Shelf
set_option linter.unusedSimpArgs false
set_option linter.unusedVariables false
attribute [local go_sem] Oper.semAt_some

set_option maxRecDepth 100000 in
set_option maxHeartbeats 2000000 in
theorem rruns_low (W : World) (ao : Option Addr) (len cap : Nat) (xs : List I64) (n : Int) (hn : n < 1) (hv : SrcV W (.slice ao len cap) (xs.map DI)) (hll : len = xs.length) (hl : len ≤ 1000000) : Calls Try.prog 24 #[.slice ao len cap, .int .i64 n] W fun e W' => e = .returned (.slice none 0 0) ∧ Kept (fun _ => False) W W' := by
  obtain ⟨ao', cap', he, hcap, hsrc, _⟩ := hv
  simp only [List.length_map] at he hcap hsrc
  obtain ⟨rfl, rfl, rfl⟩ : ao = ao' ∧ len = xs.length ∧ cap = cap' := by simpa using he
  have HSrc := hide hsrc
  obtain ⟨len, hlen⟩ : ∃ len, len = xs.length := ⟨_, rfl⟩
  rw [← hlen] at hcap hl HSrc ⊢
  have Hlen := hide hlen
  clear hsrc hlen he
  go_enter Try.func24, Try.ntmps24
  go_wp2
  go_loopw [5, 10] (fun o i wr => o = .slice none 0 0 ∧ i = .int .i64 0 ∧ Hid (Kept (fun _ => False) W wr)) (fun _ i _ => 0)
  case atStart => exact ⟨rfl, rfl, hide (Kept.refl _ _)⟩
  case round =>
    obtain ⟨rfl, rfl, hK⟩ := hrel
    by_cases hlt : 0 < len
    · obtain ⟨g, off, rfl, hcs⟩ := HSrc.out (by omega)
      have hk2 : 0 < xs.length := by rw [← Hlen.out]; exact hlt
      have c0 : wr.cell? ⟨g, off, none⟩ = some (.int .i64 xs[0].1) := by
        have := (hK.out.cells hcs (fun h => h)) 0 (.int .i64 xs[0].1) (by simp [hk2])
        simpa using this
      obtain ⟨x, hx⟩ : ∃ x, x = xs[0] := ⟨_, rfl⟩
      rw [← hx] at c0
      clear hx hcs
      go_wp2
      go_ret
      exact ⟨rfl, hK.out⟩
    · obtain rfl : len = 0 := by omega
      go_wp2
      go_ret
      exact ⟨rfl, hK.out⟩

/-- What 'asked' reads. -/
def askX (bl bp : Nat) (xs : List I64) (v : Value) (k : Nat) : Prop := k = bl ∨ k = bp ∨ (0 < xs.length ∧ vX v k)
/-- As many were asked for as were handed on. -/
def askP (bc : Nat) (b : Bool) (pre : List I64) (W : World) : Prop := Blk W bc [.int .i64 (pre.length : Nat)] 3
set_option maxRecDepth 100000 in
set_option maxHeartbeats 1000000 in
theorem asked1_at {xs : List I64} {bl bp bc : Nat} {v : Value} {W : World} (hbl : Blk W bl [v] 22) (hbp : Blk W bp [.pointer (some ⟨bc, 0, none⟩)] 40) (hbc : Blk W bc [.int .i64 0] 3) (hv : SrcV W v (xs.map DI)) (hl : xs.length ≤ 1000000) (hap : ∀ k, askX bl bp xs v k → k ≠ bc) :
    FSeqAt Try.prog (.func (.func 51) #[] #[.pointer (some ⟨bl, 0, none⟩), .pointer (some ⟨bp, 0, none⟩)]) (EncD DI) xs (askX bl bp xs v) (fun k => k = bc) (askP bc) W := by
  intro tv J Jx F0 htv hJ hJx hF0 ht h0
  obtain ⟨i3, hi3, hz3, hs3, hb3⟩ := info_parts Try.info3
  have Hi3 := hide hi3
  have Hs3 := hide hs3
  have HJ := hide hJ
  have HJx := hide hJx
  have HT := hide ht
  have H0 := hide h0
  have HF0 := hide hF0
  have HBp := hide hbp
  have HBc := hide hbc
  have Hap := hide hap
  have c : W.cell? ⟨bl, 0, none⟩ = some v := hbl.cell 0
  have hltp := hbp.lt
  have hltc := hbc.lt
  have hpc : bp ≠ bc := hap bp (.inr (.inl rfl))
  obtain ⟨ao, cap, rfl, hcap, hsrc, hnil0⟩ := hv
  simp only [List.length_map] at c hcap hsrc
  have HS2 := hide hsrc
  clear hJ hJx ht h0 hF0 hbl hbp hbc hsrc hnil0 hi3 hz3 hs3 hb3 hap
  obtain ⟨len, hlen⟩ : ∃ len, len = xs.length := ⟨_, rfl⟩
  have Hlen := hide hlen
  rw [← hlen] at c hcap hl HS2
  simp only [List.length_map] at HF0 Hap
  clear hlen
  refine .inl ⟨_, _, rfl, enters_of Try.func51 (by kernel_rfl) rfl, ?_⟩
  show Calls Try.prog 51 #[tv, .pointer (some ⟨bl, 0, none⟩), .pointer (some ⟨bp, 0, none⟩)] W _
  refine (callsIn_wide (n := 4)).1 (callsIn_of_wp Try.func51 rfl trivial ?_ rfl)
  simp only [Try.ntmps51, List.size_toArray, List.length_cons, List.length_nil, Nat.reduceAdd, Nat.reduceSub, Array.replicate_succ, Array.replicate_zero, List.push_toArray, List.append_toArray, List.nil_append, List.cons_append]
  gi_wp2
  gi_loopw [8] (fun i wr => ∃ (k : Nat) (F : NSet), i = .int .i64 k ∧ k ≤ len ∧ Hid (J (xs.take k) F wr) ∧ Hid (∀ k, F k → F0 k ∨ W.heap.size ≤ k) ∧ Hid (Kept (fun j => F0 j ∨ j = bc) W wr) ∧ Hid (Blk wr bc [.int .i64 (k : Nat)] 3))
    (fun i _ => len - (intOf i).toNat)
  case atStart => exact ⟨0, F0, rfl, Nat.zero_le _, hide H0.out, hide (fun k h => .inl h), hide (Kept.refl _ _), HBc⟩
  case round =>
    obtain ⟨k, F, rfl, hk, hJk, hFk, hKk, hBk⟩ := hrel
    clear c
    by_cases hlt2 : k < len
    · obtain ⟨g, off, rfl, hcs⟩ := HS2.out (by omega)
      have hkx : k < xs.length := by rw [← Hlen.out]; exact hlt2
      have hgX : askX bl bp xs (.slice (some ⟨g, off, none⟩) xs.length cap) g := .inr (.inr ⟨by omega, off, _, _, rfl⟩)
      have hcs2 := hKk.out.cells hcs (fun h => h.elim (fun h => (HF0.out g h).1 hgX) (fun h => Hap.out g hgX h))
      have c0 : wr.cell? ⟨g, off + k, none⟩ = some (DI xs[k]) := hcs2 k _ (by simp [hkx])
      have hbp2 := hKk.out.blk HBp.out (fun h => h.elim (fun h => (HF0.out bp h).1 (.inr (.inl rfl))) (fun h => hpc h))
      have c1 : wr.cell? ⟨bp, 0, none⟩ = some (.pointer (some ⟨bc, 0, none⟩)) := hbp2.cell 0
      have c2 : wr.cell? ⟨bc, 0, none⟩ = some (.int .i64 (k : Nat)) := hBk.out.cell 0
      have Hzs : Hid (xs.take (k + 1) = xs.take k ++ [xs[k]] ∧ (xs.take (k + 1)).length = k + 1) := hide ⟨List.take_succ_eq_append_getElem hkx, by rw [List.length_take]; omega⟩
      have Hzp : Hid (xs = xs.take k ++ xs[k] :: xs.drop (k + 1)) := hide (by rw [List.getElem_cons_drop, List.take_append_drop])
      obtain ⟨x, hx⟩ : ∃ x, x = xs[k] := ⟨_, rfl⟩
      rw [← hx] at c0 Hzs Hzp
      clear hx hcs hcs2 hbp2 hgX
      gi_wp2_with (with_reducible refine stopi_store 3 ?_)
      refine hide ?_
      refine ai_store1 (v := .int .i64 ((k : Int) + 1)) Hi3.out Hs3.out rfl rfl rfl rfl hBk.out (by simp) ?_
      intro w1 hb1 hk1 hz1
      have hb1' : Blk w1 bc [.int .i64 ((k + 1 : Nat) : Int)] 3 := hb1
      have hFc : ¬ F bc := fun h => by
        rcases hFk.out bc h with h | h
        · exact (HF0.out bc h).2 rfl
        · omega
      have hJ1 := (HJ.out _).kept _ _ _ _ hJk.out hk1 (fun j h1 h2 => hFc (h1 ▸ h2)) (fun j h1 h2 => h1)
      have hsz := hKk.out.size
      have hyc := HT.out _ x _ F (fun _ => False) (DI x) w1 Hzp.out hJ1 (by omega) hFk.out ⟨rfl, fun _ h => h⟩ (fun _ h => h.elim)
      have Hyc := hide hyc
      have HB1 := hide hb1'
      have Hk1 := hide hk1
      have Hz1 := hide hz1
      clear hyc hb1 hb1' hk1 hz1 hJ1 c0 c1 c2
      try simp only [put_lit, put_none, List.set_cons_succ, List.set_cons_zero]
      gi_wp2_with (with_reducible refine stopi_val1 ?_)
      refine hide ?_
      try simp only [put_lit, put_none, List.set_cons_succ, List.set_cons_zero]
      refine ai_yc1 (yv := tv) (vy := DI x) rfl rfl rfl Hyc.out ?_
      rintro e w2 ⟨F', hcase, hk2, hF'⟩
      rw [← Hzs.out.1] at hcase
      have hz1 := Hz1.out
      have HK2 : Hid (Kept (fun j => F0 j ∨ j = bc) W w2) := hide ((hKk.out.trans Hk1.out (fun j hj h => .inr h)).trans hk2 (fun j hj h => by
        rcases h with h | h
        · exact (hFk.out j h).elim .inl (fun h => by omega)
        · exact h.elim))
      have HF2 : Hid (∀ k, F' k → F0 k ∨ W.heap.size ≤ k) := hide (fun j h => by
        rcases hF' j h with h | h | h
        · exact hFk.out j h
        · exact h.elim
        · exact .inr (by omega))
      have HB2 := hide (hk2.blk HB1.out (fun h => h.elim hFc (fun h => h)))
      rcases hcase with ⟨rfl, hJ4⟩ | ⟨rfl, hJ4⟩
      · have HJ4 := hide hJ4
        clear hJ4 hk2 hF'
        refine ⟨_, rfl, ?_⟩
        try simp only [put_lit, List.set_cons_succ, List.set_cons_zero]
        gi_wp2
        go_roundw
        case rel => exact ⟨k + 1, F', by simp, by omega, HJ4, HF2, HK2, HB2⟩
        case measure => simp [intOf]; omega
      · have HJ4 := hide hJ4
        have Hpre : Hid (∃ post, xs = xs.take (k + 1) ++ post) := hide ⟨_, (List.take_append_drop _ _).symm⟩
        clear hJ4 hk2 hF'
        refine ⟨_, rfl, ?_⟩
        try simp only [put_lit, List.set_cons_succ, List.set_cons_zero]
        gi_wp2
        refine bodyPost_ret (results_none rfl _ _ _) rfl ?_
        exact ⟨⟨_, rfl⟩, false, HK2.out, .inr ⟨rfl, _, F', Hpre.out, HJ4.out, HF2.out, by unfold askP; rw [Hzs.out.2]; exact HB2.out⟩⟩
    · obtain rfl : k = len := by omega
      have Htk : Hid (xs.take k = xs) := hide (List.take_of_length_le (by rw [← Hlen.out]; exact Nat.le_refl _))
      gi_wp2
      go_end0
      refine ⟨⟨_, rfl⟩, true, hKk.out, .inl ⟨rfl, F, ?_, hFk.out, ?_⟩⟩
      · have := hJk.out
        rwa [Htk.out] at this
      · unfold askP; rw [← Hlen.out]; exact hBk.out
end Go.Proofs.Ytgeffdoepcbhiaa
