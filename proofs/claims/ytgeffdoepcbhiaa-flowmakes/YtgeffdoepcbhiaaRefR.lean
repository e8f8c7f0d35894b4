/-
  The document's answer for layer 5: Runs.
-/
import Derived.Test.YtgeffdoepcbhiaaRefX
namespace Go.Proofs.Ytgeffdoepcbhiaa
open Go.RowKit Go.Shelf
set_option linter.unusedSimpArgs false
set_option linter.unusedVariables false
attribute [local go_sem] Oper.semAt_some

/-- Lists in a list: d, whose memory is G, and behind them c, in rv. -/
def RIn (W wr : World) (kv : Value) (d : List (List I64)) (c : List I64) (vsd : List Value) (rv : Value) (G : NSet) : Prop :=
  Kept (fun _ => False) W wr ∧ (∀ b, kv.ownBlock = some b → W.heap.size ≤ b) ∧ wr.ownsRow 0 22 1 kv (d.length + 1) (vsd ++ [rv]) ∧ Els (EncRow 3 DI) d vsd G wr ∧ wr.ownsRow 0 3 1 rv c.length (c.map DI) ∧
    (∀ b, rv.ownBlock = some b → W.heap.size ≤ b ∧ ¬ G b ∧ kv.ownBlock ≠ some b) ∧ (∀ b, G b → W.heap.size ≤ b ∧ b < wr.heap.size ∧ kv.ownBlock ≠ some b)
def RSt (W wr : World) (kv : Value) (L : List (List I64)) : Prop := (L = [] ∧ kv = .slice none 0 0 ∧ Kept (fun _ => False) W wr) ∨ ∃ d c vsd rv G, L = d ++ [c] ∧ RIn W wr kv d c vsd rv G
theorem RSt.els {W wr : World} {kv : Value} {L : List (List I64)} (h : RSt W wr kv L) : ∃ vs G, wr.ownsRow 0 22 1 kv L.length vs ∧ Els (EncRow 3 DI) L vs G wr ∧ Kept (fun _ => False) W wr ∧ (∀ b, kv.ownBlock = some b → W.heap.size ≤ b) ∧ (∀ b, G b → W.heap.size ≤ b ∧ b < wr.heap.size ∧ kv.ownBlock ≠ some b) := by
  rcases h with ⟨rfl, rfl, hk⟩ | ⟨d, c, vsd, rv, G, rfl, hk, h1, h2, h3, h4, h5, h6⟩
  · exact ⟨[], fun _ => False, World.ownsRow_nil _ _ _ _, ⟨rfl, fun i x v h => by simp at h⟩, hk, fun b h => by simp [Value.ownBlock] at h, fun b h => h.elim⟩
  · refine ⟨_, fun k => G k ∨ rv.ownBlock = some k, by simpa using h2, h3.snoc ⟨h4, fun k => Iff.rfl⟩, hk, h1, fun b hb => ?_⟩
    rcases hb with hb | hb
    · exact h6 b hb
    · exact ⟨(h5 b hb).1, ownsRow_lt h4 b hb, (h5 b hb).2.2⟩
/-- A new list behind them. -/
theorem RSt.new {W wr w' : World} {kv kv' : Value} {L : List (List I64)} (h : RSt W wr kv L) {vs : List Value} {G : NSet} (h0 : Els (EncRow 3 DI) L vs G wr) (hG : ∀ b, G b → W.heap.size ≤ b ∧ b < wr.heap.size ∧ kv.ownBlock ≠ some b) (hkv : ∀ b, kv.ownBlock = some b → W.heap.size ≤ b) (hk : Kept (fun _ => False) W wr)
    (h1 : w'.ownsRow 0 22 1 kv' (L.length + 1) (vs ++ [.slice none 0 0])) (h2 : Kept (fun k => kv.ownBlock = some k) wr w') (h3 : ∀ k, kv'.ownBlock = some k → kv.ownBlock = some k ∨ wr.heap.size ≤ k) : RIn W w' kv' L [] vs (.slice none 0 0) G := by
  refine ⟨hk.trans h2 (fun k hk' h' => by have := hkv k h'; omega), fun b hb => ?_, h1, h0.kept (EncRow.ok _ _ (fun _ => False)) h2 (fun k hs => ⟨fun hg => (hG k hg).2.2 hs, fun h => h⟩), World.ownsRow_nil _ _ _ _, fun b hb => by simp [Value.ownBlock] at hb, fun b hb => ⟨(hG b hb).1, Nat.lt_of_lt_of_le (hG b hb).2.1 h2.size, fun h' => ?_⟩⟩
  · rcases h3 b hb with h' | h'
    · exact hkv b h'
    · have := hk.size; omega
  · rcases h3 b h' with h'' | h''
    · exact (hG b hb).2.2 h''
    · have := (hG b hb).2.1; omega
/-- Where the last list lies. -/
theorem RIn.last {W wr : World} {kv : Value} {d : List (List I64)} {c : List I64} {vsd : List Value} {rv : Value} {G : NSet} (h : RIn W wr kv d c vsd rv G) : ∃ g cap C, kv = .slice (some ⟨g, 0, none⟩) (d.length + 1) cap ∧ Blk wr g ((vsd ++ [rv]) ++ C) 22 ∧ d.length + 1 ≤ cap ∧ cap ≤ maxLen ∧ C.length = (cap - (d.length + 1)) * 1 ∧ vsd.length = d.length := by
  have hl : vsd.length = d.length := h.2.2.2.1.1.symm
  rcases ownsRow_blk h.2.2.1 with ⟨_, h0, _⟩ | ⟨g, cap, C, rfl, hb, h1, h2, h3⟩
  · omega
  · exact ⟨g, cap, C, rfl, hb, h1, h2, h3, hl⟩
/-- One more behind the last list. -/
theorem RIn.push {W wr w2 w3 : World} {g cap : Nat} {C : List Value} {d : List (List I64)} {c : List I64} {vsd : List Value} {rv rv' : Value} {G : NSet} {x : I64} (h : RIn W wr (.slice (some ⟨g, 0, none⟩) (d.length + 1) cap) d c vsd rv G) (hcap : d.length + 1 ≤ cap) (hm : cap ≤ maxLen) (hC : C.length = (cap - (d.length + 1)) * 1)
    (h1 : w2.ownsRow 0 3 1 rv' (c.length + 1) (c.map DI ++ [DI x])) (h2 : Kept (fun k => rv.ownBlock = some k) wr w2) (h3 : ∀ k, rv'.ownBlock = some k → rv.ownBlock = some k ∨ wr.heap.size ≤ k) (hb : Blk w3 g ((vsd ++ [rv']) ++ C) 22) (hk3 : Kept (fun k => k = g) w2 w3) (hgl : g < wr.heap.size) :
    RSt W w3 (.slice (some ⟨g, 0, none⟩) (d.length + 1) cap) (d ++ [c ++ [x]]) := by
  obtain ⟨hk, hkv, ho, he, hr, hrv, hG⟩ := h
  have hl : vsd.length = d.length := he.1.symm
  have hgW : W.heap.size ≤ g := hkv g rfl
  have hsz := hk.size
  have h2s := h2.size
  have hrg : ∀ b, rv'.ownBlock = some b → b ≠ g := fun b hb' e => by
    rcases h3 b hb' with h' | h'
    · exact (hrv b h').2.2 (by rw [e]; rfl)
    · omega
  refine .inr ⟨d, c ++ [x], vsd, rv', G, rfl, (hk.trans h2 (fun k hk' h' => by have := (hrv k h').1; omega)).trans hk3 (fun k hk' h' => by omega), hkv, ownsRow_of hb (by simp [hl]) hcap hm hC, ?_, ?_, fun b hb' => ⟨?_, ?_, ?_⟩, fun b hb' => ⟨(hG b hb').1, ?_, (hG b hb').2.2⟩⟩
  · exact (he.kept (EncRow.ok _ _ (fun _ => False)) h2 (fun k hs => ⟨fun hg => (hrv k hs).2.1 hg, fun h => h⟩)).kept (EncRow.ok _ _ (fun _ => False)) hk3 (fun k hs => ⟨fun hg => (hG k hg).2.2 (by rw [hs]; rfl), fun h => h⟩)
  · have := ownsRow_kept h1 hk3 (fun b hb' e => hrg b hb' e)
    simpa using this
  · rcases h3 b hb' with h' | h'
    · exact (hrv b h').1
    · omega
  · intro hg
    rcases h3 b hb' with h' | h'
    · exact (hrv b h').2.1 hg
    · have := (hG b hg).2.1; omega
  · intro e
    simp [Value.ownBlock] at e
    exact hrg b hb' e.symm
  · have := (hG b hb').2.1
    have := hk3.size
    omega

theorem set_mid (a : List Value) (u v : Value) (c : List Value) (n : Nat) (h : a.length = n) : ((a ++ [u]) ++ c).set n v = (a ++ [v]) ++ c := by
  subst h
  simp [List.set_append]
set_option maxRecDepth 100000 in
set_option maxHeartbeats 2000000 in
theorem rruns_at (W : World) (v : Value) (xs : List I64) (m : Nat) (hm1 : 1 ≤ m) (hm2 : m ≤ 9223372036854775807) (hv : SrcV W v (xs.map DI)) (hl : xs.length ≤ 1000000) : Calls Try.prog 24 #[v, .int .i64 (m : Nat)] W fun e W' => ∃ o, e = .returned o ∧ RSt W W' o (runsOf m xs) := by
  obtain ⟨i3, hi3, hz3, hs3, hb3⟩ := info_parts Try.info3
  obtain ⟨i22, hi22, hz22, hs22, hb22⟩ := info_parts Try.info22
  have Hi3 := hide hi3
  have Hz3 := hide hz3
  have Hs3 := hide hs3
  have Hb3 := hide hb3
  have Hi22 := hide hi22
  have Hz22 := hide hz22
  have Hs22 := hide hs22
  have Hb22 := hide hb22
  obtain ⟨ao, cap, rfl, hcap, hsrc, _⟩ := hv
  simp only [List.length_map] at hcap hsrc ⊢
  have HSrc := hide hsrc
  obtain ⟨len, hlen⟩ : ∃ len, len = xs.length := ⟨_, rfl⟩
  rw [← hlen] at hcap hl HSrc ⊢
  have Hlen := hide hlen
  clear hsrc hlen hi3 hz3 hs3 hb3 hi22 hz22 hs22 hb22
  go_enter Try.func24, Try.ntmps24
  go_wp2
  go_loopw [5, 10] (fun o i wr => ∃ (k : Nat) (oa : Option Addr) (on oc : Nat), o = .slice oa on oc ∧ i = .int .i64 k ∧ k ≤ len ∧ Hid (RSt W wr (.slice oa on oc) (runsOf m (xs.take k)))) (fun _ i _ => len - (intOf i).toNat)
  case atStart => exact ⟨0, none, 0, 0, rfl, rfl, Nat.zero_le _, hide (.inl ⟨rfl, rfl, Kept.refl _ _⟩)⟩
  case round =>
    obtain ⟨k, oa, on, oc, rfl, rfl, hk, hG⟩ := hrel
    by_cases hlt : k < len
    · obtain ⟨g, off, rfl, hcs⟩ := HSrc.out (by omega)
      have hk2 : k < xs.length := by rw [← Hlen.out]; exact hlt
      obtain ⟨vs0, G0, hown0, hels0, hKk, hkv0, hG0⟩ := hG.out.els
      have c0 : wr.cell? ⟨g, off + k, none⟩ = some (.int .i64 xs[k].1) := (hKk.cells hcs (fun h => h)) k _ (by simp [hk2])
      have htl : (xs.take k).length = k := by rw [List.length_take]; omega
      have hcnt : (runsOf m (xs.take k)).length ≤ 1000000 := by have := runsOf_cnt m (xs.take k); omega
      have hln := runSt_len m hm1 (xs.take k)
      rw [htl] at hln
      have hts : xs.take (k + 1) = xs.take k ++ [xs[k]] := List.take_succ_eq_append_getElem hk2
      obtain ⟨x, hx⟩ : ∃ x, x = xs[k] := ⟨_, rfl⟩
      rw [← hx] at c0 hts
      have Hts := hide hts
      obtain ⟨r, hr⟩ : ∃ r, r = k % m := ⟨_, rfl⟩
      have hmod : (k : Int) % (m : Int) = (r : Int) := by rw [hr]; omega
      have htmod : (k : Int).tmod (m : Int) = (r : Int) := by rw [Int.tmod_eq_emod_of_nonneg (by omega)]; exact hmod
      rw [← hr] at hln
      have Hln := hide hln
      have HEls := hide hels0
      have HOwn := hide hown0
      have HKk := hide hKk
      have HKv := hide hkv0
      have HG0 := hide hG0
      clear hx hcs hts hr hln hels0 hown0 hKk hkv0 hG0 htl
      by_cases hr0 : r = 0
      · subst hr0
        have Hnew : Hid (runsOf m (xs.take (k + 1)) = runsOf m (xs.take k) ++ [[x]]) := hide (by rw [Hts.out]; exact runsOf_new m _ x (List.eq_nil_of_length_eq_zero Hln.out))
        generalize hd : runsOf m (xs.take k) = d at hG HEls HOwn Hnew hcnt
        clear hd
        go_wp2_with (with_reducible refine stop_bs1 46 ?_)
        refine hide ?_
        refine aw_push (v := .slice none 0 0) (o := .slice oa on oc) Try.underlying46 Hi22.out Hz22.out Hs22.out Hb22.out rfl (by decide) rfl rfl rfl rfl rfl HOwn.out (by omega) ?_
        intro kv' w1 q1 q2 q3
        obtain ⟨rv, hrv⟩ : ∃ rv, rv = Value.slice none 0 0 := ⟨_, rfl⟩
        have HR0 := RSt.new hG.out HEls.out HG0.out HKv.out HKk.out q1 q2 q3
        rw [← hrv] at HR0
        have HR := hide HR0
        obtain ⟨oa1, oc1, rfl⟩ := ownsRow_slice q1
        obtain ⟨ln1, hln1⟩ : ∃ ln1, ln1 = d.length + 1 := ⟨_, rfl⟩
        obtain ⟨c, hc⟩ : ∃ c : List I64, c = [] := ⟨_, rfl⟩
        rw [← hln1] at HR ⊢
        rw [← hc] at HR
        have HCl : Hid (c.length ≤ 1000000) := hide (by rw [hc]; simp)
        have Hnew2 : Hid (runsOf m (xs.take (k + 1)) = d ++ [c ++ [x]]) := hide (by rw [hc]; exact Hnew.out)
        have hln1' : ln1 ≤ 1000001 := by omega
        clear q1 q2 q3 hrv HR0 hln1 hc c0 Hnew
        try simp only [put_lit, put_none, List.set_cons_succ, List.set_cons_zero]
        obtain ⟨g2, cap2, C, he, hb, h1, h2, h3, hl2⟩ := HR.out.last
        obtain ⟨rfl, hln2, rfl⟩ : oa1 = some ⟨g2, 0, none⟩ ∧ ln1 = d.length + 1 ∧ oc1 = cap2 := by simpa using he
        obtain ⟨dn, hdn⟩ : ∃ dn, dn = d.length := ⟨_, rfl⟩
        have hsub : (ln1 : Int) - 1 = (dn : Int) := by omega
        have hdl : dn < ln1 := by omega
        have hdm : dn ≤ 1000001 := by omega
        have c1 : w1.cell? ⟨g2, dn, none⟩ = some rv := by
          rw [hb.cell, List.getElem?_append_left (by simp; omega), List.getElem?_append_right (by omega)]
          simp [hl2, hdn]
        have hgl := hb.lt
        have Hb := hide hb
        have Hln2 := hide hln2
        have Hdn := hide hdn
        have Hl2 := hide hl2
        have Hh := hide (And.intro h1 (And.intro h2 h3))
        obtain ⟨ra, rc, hrvl⟩ := ownsRow_slice HR.out.2.2.2.2.1
        obtain ⟨cn, hcn⟩ : ∃ cn, cn = c.length := ⟨_, rfl⟩
        rw [← hcn] at hrvl
        subst hrvl
        have Hcn := hide hcn
        clear he hb h1 h2 h3 hln2 hdn hl2 hcn
        go_wp2_with (with_reducible refine stop_bs1 22 ?_)
        refine hide ?_
        refine aw_push (v := DI x) (o := .slice ra cn rc) Try.underlying22 Hi3.out Hz3.out Hs3.out Hb3.out rfl (by decide) rfl rfl rfl rfl rfl HR.out.2.2.2.2.1 (by have := HCl.out; have := Hcn.out; omega) ?_
        intro rv' w2 p1 p2 p3
        have hb2 := p2.blk Hb.out (fun h => (HR.out.2.2.2.2.2.1 _ h).2.2 rfl)
        obtain ⟨ra', rc', rfl⟩ := ownsRow_slice p1
        have Hp := hide (And.intro p1 (And.intro p2 p3))
        have Hb2 := hide hb2
        clear p1 p2 p3 hb2 c1
        try simp only [put_lit, put_none, List.set_cons_succ, List.set_cons_zero]
        go_wp2_with (with_reducible refine stop_store 22 ?_)
        refine hide ?_
        refine aw_store1 (v := .slice ra' (c.length + 1) rc') (off := dn) Hi22.out Hs22.out (by first | rfl | simp [Act.eval, Act.put]) rfl rfl rfl Hb2.out (by have := Hl2.out; have := Hdn.out; simp; omega) ?_
        intro w3 hb3 hk3 hz3
        rw [set_mid _ _ _ _ _ (by rw [Hl2.out, Hdn.out])] at hb3
        have hfin := RIn.push (x := x) (by rw [← Hln2.out]; exact HR.out) (by have := Hh.out.1; omega) Hh.out.2.1 (by exact Hh.out.2.2) Hp.out.1 Hp.out.2.1 Hp.out.2.2 hb3 hk3 hgl
        rw [← Hln2.out] at hfin
        have HF := hide hfin
        clear hb3 hk3 hz3 hfin
        try simp only [put_lit, put_none, List.set_cons_succ, List.set_cons_zero]
        go_wp2
        go_roundw
        case rel => exact ⟨k + 1, _, _, _, rfl, by simp, by omega, by rw [Hnew2.out]; exact HF⟩
        case measure => simp [intOf]; omega
      · have hne : (runSt m (xs.take k)).2 ≠ [] := fun h => by
          have := Hln.out
          rw [h] at this
          exact hr0 this.symm
        have hmore := runsOf_more m (xs.take k) x hne
        obtain ⟨d, c, vsd, rv, G, hdc, hR0⟩ : ∃ d c vsd rv G, runsOf m (xs.take k) = d ++ [c] ∧ RIn W wr (.slice oa on oc) d c vsd rv G := by
          rcases hG.out with ⟨h, _⟩ | h
          · rw [hmore.1] at h; simp at h
          · exact h
        rw [hmore.1] at hdc
        obtain ⟨hd1, hd2⟩ := List.append_inj' hdc rfl
        have hd2 : (runSt m (xs.take k)).2 = c := by simpa using hd2
        have Hnew2 : Hid (runsOf m (xs.take (k + 1)) = d ++ [c ++ [x]]) := hide (by rw [Hts.out, hmore.2, hd1, hd2])
        have HCl : Hid (c.length ≤ 1000000) := hide (by
          have := runSt_cur m (xs.take k)
          rw [hd2, List.length_take] at this
          omega)
        have hdl0 : d.length ≤ 1000000 := by
          have := runSt_cnt m (xs.take k)
          rw [hd1, List.length_take] at this
          omega
        have HR := hide hR0
        clear hmore hdc hd1 hd2 hR0 hne
        have hr1 : ¬ (r : Int) = 0 := by omega
        obtain ⟨g2, cap2, C, he, hb, h1, h2, h3, hl2⟩ := HR.out.last
        obtain ⟨rfl, hln2, rfl⟩ : oa = some ⟨g2, 0, none⟩ ∧ on = d.length + 1 ∧ oc = cap2 := by simpa using he
        obtain ⟨dn, hdn⟩ : ∃ dn, dn = d.length := ⟨_, rfl⟩
        have hsub : (on : Int) - 1 = (dn : Int) := by omega
        have hdl : dn < on := by omega
        have hdm : dn ≤ 1000001 := by omega
        have c1 : wr.cell? ⟨g2, dn, none⟩ = some rv := by
          rw [hb.cell, List.getElem?_append_left (by simp; omega), List.getElem?_append_right (by omega)]
          simp [hl2, hdn]
        have hgl := hb.lt
        have Hb := hide hb
        have Hln2 := hide hln2
        have Hdn := hide hdn
        have Hl2 := hide hl2
        have Hh := hide (And.intro h1 (And.intro h2 h3))
        obtain ⟨ra, rc, hrvl⟩ := ownsRow_slice HR.out.2.2.2.2.1
        obtain ⟨cn, hcn⟩ : ∃ cn, cn = c.length := ⟨_, rfl⟩
        rw [← hcn] at hrvl
        subst hrvl
        have Hcn := hide hcn
        clear he hb h1 h2 h3 hln2 hdn hl2 hcn
        go_wp2_with (with_reducible refine stop_bs1 22 ?_)
        refine hide ?_
        refine aw_push (v := DI x) (o := .slice ra cn rc) Try.underlying22 Hi3.out Hz3.out Hs3.out Hb3.out rfl (by decide) rfl rfl rfl rfl rfl HR.out.2.2.2.2.1 (by have := HCl.out; have := Hcn.out; omega) ?_
        intro rv' w2 p1 p2 p3
        have hb2 := p2.blk Hb.out (fun h => (HR.out.2.2.2.2.2.1 _ h).2.2 rfl)
        obtain ⟨ra', rc', rfl⟩ := ownsRow_slice p1
        have Hp := hide (And.intro p1 (And.intro p2 p3))
        have Hb2 := hide hb2
        clear p1 p2 p3 hb2 c1
        try simp only [put_lit, put_none, List.set_cons_succ, List.set_cons_zero]
        go_wp2_with (with_reducible refine stop_store 22 ?_)
        refine hide ?_
        refine aw_store1 (v := .slice ra' (c.length + 1) rc') (off := dn) Hi22.out Hs22.out (by first | rfl | simp [Act.eval, Act.put]) rfl rfl rfl Hb2.out (by have := Hl2.out; have := Hdn.out; simp; omega) ?_
        intro w3 hb3 hk3 hz3
        rw [set_mid _ _ _ _ _ (by rw [Hl2.out, Hdn.out])] at hb3
        have hfin := RIn.push (x := x) (by rw [← Hln2.out]; exact HR.out) (by have := Hh.out.1; omega) Hh.out.2.1 (by exact Hh.out.2.2) Hp.out.1 Hp.out.2.1 Hp.out.2.2 hb3 hk3 hgl
        rw [← Hln2.out] at hfin
        have HF := hide hfin
        clear hb3 hk3 hz3 hfin
        try simp only [put_lit, put_none, List.set_cons_succ, List.set_cons_zero]
        go_wp2
        go_roundw
        case rel => exact ⟨k + 1, _, _, _, rfl, by simp, by omega, by rw [Hnew2.out]; exact HF⟩
        case measure => simp [intOf]; omega
    · obtain rfl : k = len := by omega
      have Htk : Hid (xs.take k = xs) := hide (List.take_of_length_le (by rw [← Hlen.out]; exact Nat.le_refl _))
      go_wp2
      go_ret
      exact ⟨_, rfl, by have := hG.out; rwa [Htk.out] at this⟩
end Go.Proofs.Ytgeffdoepcbhiaa
