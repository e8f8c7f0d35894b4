/-
  What PoolKeeps and PoolSaves ask, without memory.
-/
import Derived.Test.YtnlcmgdeohbmoaaJ45
namespace Go.Proofs.Ytnlcmgdeohbmoaa
open Go.RowKit Go.Shelf
set_option linter.unusedSimpArgs false
set_option linter.unusedVariables false
set_option maxRecDepth 100000

theorem imgK_eq {l l' : PL} {s s' : D.DS} {n : Nat} (h : ∀ k, k < n → l.getV s k = l'.getV s' k) : l.imgK s n = l'.imgK s' n := by
  unfold PL.imgK
  have : ∀ m, m ≤ n → (List.range m).flatMap (fun k => l.getV s k) = (List.range m).flatMap (fun k => l'.getV s' k) := by
    intro m
    induction m with
    | zero => intro _; rfl
    | succ m ih =>
      intro hm
      rw [List.range_succ, List.flatMap_append, List.flatMap_append, ih (by omega)]
      simp [h m (by omega)]
  exact this n (Nat.le_refl _)
theorem crashed_nil {s : D.DS} {nd : Nat} (h : Good s nd) (hst : s.st = s.view) (hw : s.ws = []) : Good (s.crashed []) nd ∧ (s.crashed []).view = s.view ∧ (s.crashed []).st = s.view := by
  have e : s.crashed [] = { s with st := s.st, ws := [], off := false, left := -1 } := by
    unfold D.DS.crashed
    rw [hw]
    rfl
  have hv : (s.crashed []).view = s.st := by rw [e]; rfl
  rw [hst] at hv
  refine ⟨⟨by rw [e], by rw [e], by rw [hv]; exact h.view, by rw [hv]; exact h.byte⟩, hv, by rw [e]; exact hst⟩
theorem getV_bare {s : D.DS} {nd fr n : Nat} (h : Good s nd) (k : Nat) : (⟨fr, n, [], []⟩ : PL).getV s k = NV (D.part s.view (fr + k) 1) := by
  unfold PL.getV
  have : getP ([] : List EntP) ((k : Nat) : Int) = none := rfl
  simp only [this, h.off]
  rfl
theorem imgE_good {l : PL} {s : D.DS} {nd : Nat} (h : Good s nd) : l.imgE s = 0 := by
  unfold PL.imgE
  rw [if_pos]
  rw [List.all_eq_true]
  intro m _
  simp [h.getE m]
theorem take_parts (L : List Value) (a : Nat) : ∀ n, (L.drop (64 * a)).take (64 * n) = (List.range n).flatMap (fun k => D.part L (a + k) 1)
  | 0 => by simp
  | n + 1 => by
    rw [List.range_succ, List.flatMap_append, ← take_parts L a n, show 64 * (n + 1) = 64 * n + 64 by omega, List.take_add]
    simp only [List.flatMap_cons, List.flatMap_nil, List.append_nil, D.part]
    rw [List.drop_drop, show 64 * a + 64 * n = 64 * (a + n) by omega]
theorem flat_BV {α : Type} (f : α → List Value) (g : α → List Nat) : ∀ (l : List α), (∀ x ∈ l, f x = BV (g x)) → l.flatMap f = BV (l.flatMap g)
  | [], _ => rfl
  | x :: l, h => by
    rw [List.flatMap_cons, List.flatMap_cons, BV_append, h x (by simp), flat_BV f g l (fun y hy => h y (by simp [hy]))]
/-- Behind a Save, a crash and a Drop. -/
theorem keeps_pure {l : PL} {s : D.DS} {nd : Nat} (h : Inv l s nd) : (⟨l.fr, l.n, [], []⟩ : PL).imgE ((l.saveD s).crashed []) = 0 ∧ (⟨l.fr, l.n, [], []⟩ : PL).imgK ((l.saveD s).crashed []) l.n = l.imgK s l.n ∧
    (∀ q, q < l.fr → D.part ((l.saveD s).crashed []).st q 1 = D.part s.view q 1) ∧ Good ((l.saveD s).crashed []) nd := by
  obtain ⟨h1, h2, h3, h4, h5, h6, h7, h8⟩ := h.save
  obtain ⟨c1, c2, c3⟩ := crashed_nil h3.good h4 h5
  refine ⟨imgE_good c1, imgK_eq (fun k hk => ?_), fun q hq => ?_, c1⟩
  · rw [getV_bare c1, c2, h6 k hk, NV_BV]
  · rw [c3]; exact h7 q hq
theorem zeros_part (nd q : Nat) (h : q < nd) : D.part (D.DS.new nd).view q 1 = List.replicate 64 (.int .u8 0) := by
  rw [Good.new.2]
  unfold D.part
  rw [List.drop_replicate, List.take_replicate]
  congr 1
  omega
/-- The sectors ahead of the pool's. -/
theorem keeps_zeros {l : PL} {nd : Nat} (h : Inv l (D.DS.new nd) nd) : ((l.saveD (D.DS.new nd)).crashed []).st.take (64 * l.fr) = BV (List.replicate (64 * l.fr) 0) := by
  have hk := (keeps_pure h).2.2.1
  have hfit := h.fit
  have := take_parts ((l.saveD (D.DS.new nd)).crashed []).st 0 l.fr
  rw [Nat.mul_zero, List.drop_zero] at this
  rw [this]
  have h2 : (List.range l.fr).flatMap (fun k => D.part ((l.saveD (D.DS.new nd)).crashed []).st (0 + k) 1) = BV ((List.range l.fr).flatMap (fun _ => List.replicate 64 0)) := by
    refine flat_BV _ _ _ (fun x hx => ?_)
    have hx := List.mem_range.1 hx
    rw [Nat.zero_add, hk x hx, zeros_part nd x (by omega)]
    simp [BV]
  rw [h2]
  congr 1
  have : ∀ n, (List.range n).flatMap (fun _ => List.replicate 64 (0 : Nat)) = List.replicate (64 * n) 0 := by
    intro n
    induction n with
    | zero => rfl
    | succ n ih =>
      rw [List.range_succ, List.flatMap_append, ih, show 64 * (n + 1) = 64 * n + 64 by omega, ← List.replicate_append_replicate]
      simp
  exact this _
/-- What lies on the device behind a Save. -/
theorem saves_pure {l : PL} {s : D.DS} {nd : Nat} (h : Inv l s nd) : (l.saveP s).imgE (l.saveD s) = 0 ∧ (l.saveP s).imgK (l.saveD s) l.n = l.imgK s l.n ∧ (l.saveP s).n = l.n ∧ (l.saveP s).dirty = [] ∧ ((l.saveD s).st.drop (64 * l.fr)).take (64 * l.n) = BV (l.imgK s l.n) := by
  obtain ⟨h1, h2, h3, h4, h5, h6, h7, h8⟩ := h.save
  refine ⟨h3.img, imgK_eq (fun k hk => h8 k hk), by rw [h2], by rw [h2], ?_⟩
  rw [h4, take_parts]
  exact flat_BV _ _ _ (fun x hx => h6 x (List.mem_range.1 hx))
theorem saveD_bound (l : PL) (s : D.DS) : (l.saveD s).calls ≤ s.calls + l.dirty.length + 1 ∧ (l.saveD s).ws.length ≤ s.ws.length + l.dirty.length := by
  have h := runW_bound l.fr l.dirty s
  unfold PL.saveD
  split
  · have h2 := flushed_calls (runW l.fr l.dirty s).1
    refine ⟨by omega, ?_⟩
    have h3 : ∀ t : D.DS, t.flushed.ws.length ≤ t.ws.length := by
      intro t
      unfold D.DS.flushed
      split
      · exact Nat.le_refl _
      · split
        · unfold D.DS.spent; split <;> exact Nat.le_refl _
        · exact Nat.zero_le _
    have := h3 (runW l.fr l.dirty s).1
    omega
  · omega
theorem putE_len (l : PL) (ws : List Wr) : (l.putE ws).hand.length ≤ l.hand.length + ws.length ∧ (l.putE ws).dirty.length ≤ l.dirty.length + ws.length := by
  unfold PL.putE
  split
  · exact ⟨putsP_len _ _, putsP_len _ _⟩
  · omega
end Go.Proofs.Ytnlcmgdeohbmoaa

/-
  PoolKeeps, walked.
-/
namespace Go.Proofs.Ytnlcmgdeohbmoaa
open Go.RowKit Go.Shelf
set_option linter.unusedSimpArgs false
set_option linter.unusedVariables false
set_option maxRecDepth 100000

section
variable {ρ : Operand → Value} {w : World} {dst : Option Tmp} {ty : TypeId} {pos : String} {aft : Array Edge} {gd : Option (Nat × Bool)} {x y z : Operand}
theorem r_eE {p q : Int} {r : Bool} (hx : ρ x = .int .i64 p) (hy : ρ y = .int .i64 q) (h : decide (p = q) = r) : (execOp ρ ⟨dst, .binOp .eql 25 x y 25, ty, pos, aft, gd⟩).run Try.prog w = .ok (.value (.bool r)) w := by
  subst h
  go_simp
  rfl
theorem r_e3 {p q : Int} {r : Bool} (hx : ρ x = .int .i64 p) (hy : ρ y = .int .i64 q) (h : decide (p = q) = r) : (execOp ρ ⟨dst, .binOp .eql 3 x y 3, ty, pos, aft, gd⟩).run Try.prog w = .ok (.value (.bool r)) w := by
  subst h
  go_simp
  rfl
theorem r_eqSS {A : List Nat} (hx : ρ x = .string (strN A)) (hy : ρ y = .string (strN A)) : (execOp ρ ⟨dst, .binOp .eql 9 x y 9, ty, pos, aft, gd⟩).run Try.prog w = .ok (.value (.bool true)) w := by
  have h := r_eql9 (dst := dst) (ty := ty) (pos := pos) (aft := aft) (gd := gd) (w := w) hx hy
  simpa using h
theorem r_lenI {a : Option Addr} {n c : Nat} (hx : ρ x = .slice a n c) : (execOp ρ ⟨dst, .call { callee := .builtin .len, args := #[x], argTypes := #[49] }, ty, pos, aft, gd⟩).run Try.prog w = .ok (.value (.int .i64 n)) w := by
  go_simp
end
section
variable {P : Program} {md : Region.Mode} {ops : Array Oper} {Q : Exit → Act → World → Prop} {S : World → Prop} {m fuel : Nat} {listed : Array Bool} {a : Act} {w w' : World}
/-- Two may come up: a call, and one that makes memory. -/
theorem twoCVS (i t j u : Nat) {oi oj : Oper} {f : FuncId} {args : Array Value} {R : Ending → World → Prop} {v : Value} (hr : Region.ready md ops listed = [i, j])
    (hi : ops[i]? = some oi) (hd : oi.dst = some t) (hw : Region.wanted oi (yielded ops a.tmps) = true) (hrun : (execOp a.eval oi).run P w = .ok (.enter f args) w)
    (hc : Calls P f args w R)
    (hj : ops[j]? = some oj) (hjd : oj.dst = some u) (hjw : Region.wanted oj (yielded ops a.tmps) = true) (hjrun : (execOp a.eval oj).run P w = .ok (.value v) w') (hjS : S w')
    (h : ∀ e w', R e w' → ∃ v, e = .returned v ∧ S w' ∧ wpAnyM P md ops Q S m fuel (listed.setIfInBounds i true) (a.put (some t) v) w')
    (h2 : wpAnyM P md ops Q S m fuel (listed.setIfInBounds j true) (a.put (some u) v) w') : wpAnyM P md ops Q S m (fuel + 1) listed a w :=
  twoS i j hr (stepCS i t hi hd hw hrun hc h) (stepVS j u hj hjd hjw hjrun (fun _ => hjS) h2)
end
theorem src_hi {w : World} {g m c : Nat} {B : List Nat} {L : List Value} (hz : L.take m = BV B) (h : Blk w g L 5) (hm : B.length = m := by simp) (hc : m ≤ c := by decide) (hB : ∀ x ∈ B, x < 256 := by intro x hx; rw [List.eq_of_mem_replicate hx]; decide) : Src w (.slice (some ⟨g, 0, none⟩) m c) B := by
  subst hm
  refine ⟨_, c, rfl, hc, hB, fun _ => ⟨g, 0, rfl, ?_⟩, fun h => by cases h⟩
  have := h.cells 0 B.length
  rwa [List.drop_zero, hz] at this
theorem src_zero {w : World} {g n : Nat} (h : Blk w g (List.replicate n (Value.int .u8 0)).toArray.toList 5) : Src w (.slice (some ⟨g, 0, none⟩) n n) (List.replicate n 0) := by
  refine src_hi (L := List.replicate n (Value.int .u8 0)) ?_ h (by simp) (Nat.le_refl _) (by intro x hx; rw [List.eq_of_mem_replicate hx]; decide)
  rw [List.take_of_length_le (by simp)]
  simp [BV]
set_option maxHeartbeats 2400000 in
theorem keeps_at (w : World) (va vb : Value) (la lb : List Wv) (ha : WsAt w va la) (hb : WsAt w vb lb) (hla : la.length ≤ 1000000000000000000) (hlb : lb.length ≤ 1000000000000000000) :
    Calls Try.prog 4 #[va, vb] w fun e w' => e = .returned (.bool true) ∧ Kept (fun _ => False) w w' := by
  obtain ⟨aa, ca, rfl⟩ := ha.slice
  obtain ⟨ab, cb, rfl⟩ := hb.slice
  have HA := hide (fun (w' : World) (hk : Kept (fun _ => False) w w') => ha.kept hk)
  have HB := hide (fun (w' : World) (hk : Kept (fun _ => False) w w') => hb.kept hk)
  clear ha hb
  obtain ⟨na, hna⟩ : ∃ na, na = la.length := ⟨_, rfl⟩
  obtain ⟨nb, hnb⟩ : ∃ nb, nb = lb.length := ⟨_, rfl⟩
  rw [← hna] at hla HA ⊢
  rw [← hnb] at hlb HB ⊢
  have Hna := hide hna
  have Hnb := hide hnb
  clear hna hnb
  have hw : IntKind.i64.wrap ((na : Int) + (nb : Int)) = ((na + nb : Nat) : Int) := by rw [IntKind.wrap_i64]; omega
  obtain ⟨nn, hnn⟩ : ∃ nn, nn = na + nb := ⟨_, rfl⟩
  rw [← hnn] at hw
  have hnI : (na : Int) + (nb : Int) = (nn : Int) := by omega
  by_cases hbig : 40 < nn
  · have hbI : (40 : Int) < (nn : Int) := by omega
    clear hnn
    go_enter Try.func4, Try.ntmps4
    go_wp2_with (go_at_call 6; refine (first_at w).mono ?_; rintro e w1 ⟨rfl, hk1⟩; have K1 := hide hk1; clear hk1)
    go_ret
    exact ⟨rfl, K1.out⟩
  · have hbI : ¬ (40 : Int) < (nn : Int) := by omega
    have Hab : Hid (na ≤ 40 ∧ nb ≤ 40) := hide (by omega)
    clear hnn
    go_enter Try.func4, Try.ntmps4
    go_wp2_with (go_at_call 6; refine (first_at w).mono ?_; rintro e w1 ⟨rfl, hk1⟩; have K1 := hide hk1; clear hk1)
    refine (dnew_at w1 10 (by decide) (by decide)).mono ?_
    rintro e w2 ⟨db, F, rfl, hk2, hd2, hF2⟩
    have K2 := hide (K1.out.trans hk2 (fun _ _ h => h))
    have D2 := hide hd2
    have HF : Hid (∀ k, F k → w.heap.size ≤ k) := hide (fun k h => Nat.le_trans K1.out.size (hF2 k h))
    clear hk2 hd2 hF2 hw hnI hbI
    go_wp2_with fail
    refine (pnew_at w w2 db 10 F K2.out D2.out HF.out 3 6 (by decide) (by decide)).mono ?_
    rintro e w3 ⟨b, rfl, hp3, hk3⟩
    have I0 : Inv ⟨3, 6, [], []⟩ (D.DS.new 10) 10 := Inv.new (by decide)
    obtain ⟨l0, hl0⟩ : ∃ l0 : PL, l0 = ⟨3, 6, [], []⟩ := ⟨_, rfl⟩
    rw [← hl0] at hp3 I0
    have L0 : Hid (l0.fr = 3 ∧ l0.n = 6 ∧ l0.hand = [] ∧ l0.dirty = []) := hide (by rw [hl0]; exact ⟨rfl, rfl, rfl, rfl⟩)
    obtain ⟨s0, hs0⟩ : ∃ s0, s0 = D.DS.new 10 := ⟨_, rfl⟩
    have HS0 := hide hs0
    rw [← hs0] at hp3 I0
    have HI0 := hide I0
    have P3 := hide hp3
    have C0 : Hid (s0.calls = 0 ∧ s0.ws = []) := hide (by rw [hs0]; exact ⟨rfl, rfl⟩)
    clear hp3 hk3 I0 hl0 hs0 K2 D2 HF K1
    obtain ⟨l1, hl1⟩ : ∃ l1, l1 = l0.putE (la.map Wv.wr) := ⟨_, rfl⟩
    have I1 : Hid (Inv l1 s0 10) := hide (by rw [hl1]; exact HI0.out.putE _)
    have F1 : Hid (l1.fr = 3 ∧ l1.n = 6) := hide (by rw [hl1, (puts_fr _ _).1, (puts_fr _ _).2]; exact ⟨L0.out.1, L0.out.2.1⟩)
    have N1 : Hid (l1.hand.length ≤ 40 ∧ l1.dirty.length ≤ 40) := hide (by
      have h := putE_len l0 (la.map Wv.wr)
      rw [← hl1, L0.out.2.2.1, L0.out.2.2.2, List.length_map, ← Hna.out] at h
      have := Hab.out
      simp only [List.length_nil] at h
      omega)
    obtain ⟨ea, hea⟩ : ∃ ea, ea = withE l0.n (la.map Wv.wr) := ⟨_, rfl⟩
    have HP := hide (P3.out.put (.slice aa na ca) la (fun w' hk _ => HA.out w' hk) (by rw [L0.out.2.2.1, ← Hna.out]; have := Hab.out; simp; omega) (by rw [L0.out.2.2.2, ← Hna.out]; have := Hab.out; simp; omega))
    rw [← hl1, ← hea] at HP
    have Hcs : Hid (ea = 0 ∨ (ea ≠ 0 ∧ l1 = l0)) := hide (by
      by_cases h : ea = 0
      · exact .inl h
      · refine .inr ⟨h, ?_⟩
        rw [hl1]
        unfold PL.putE
        rw [if_neg (by rw [← hea]; exact h)]
      )
    have hcs := withE_cases l0.n (la.map Wv.wr)
    rw [← hea] at hcs
    clear hl1 hea
    by_cases he0 : ea = 0
    · subst he0
      clear hcs
      go_wp2_with fail
      refine HP.out.mono ?_
      rintro e w4 ⟨rfl, hp4, hT4⟩
      have P4 := hide hp4
      clear hp4 hT4 HP P3 Hcs
      go_wp2_with fail
      refine (P4.out.image (by rw [F1.out.2]; decide) (by have := N1.out; omega)).mono ?_
      rintro e w5 ⟨dx, he, hp5, hk5, hd5, _⟩
      rw [I1.out.img] at he
      have hd := hd5 I1.out.img
      obtain ⟨px, rfl, _⟩ := hd.ptr
      subst he
      have P5 := hide hp5
      have DX5 := hide hd
      clear hp5 hk5 hd5 hd P4
      go_wp2_with fail
      refine (P5.out.save (by have := N1.out; omega) (by rw [C0.out.1]; decide) (by rw [C0.out.2]; decide) I1.out.kd).mono ?_
      rintro e w6 ⟨he, hp6, hT6⟩
      rw [I1.out.save.1] at he
      subst he
      have KP := hide (keeps_pure I1.out)
      have P6 := hide hp6
      have DX6 := hide (hT6.dk DX5.out)
      obtain ⟨l2, hl2⟩ : ∃ l2, l2 = l1.saveP s0 := ⟨_, rfl⟩
      have L2 : Hid (l2.fr = 3 ∧ l2.n = 6 ∧ l2.hand.length ≤ 40 ∧ l2.dirty.length = 0) := hide (by rw [hl2, I1.out.save.2.1]; exact ⟨F1.out.1, F1.out.2, N1.out.1, rfl⟩)
      rw [← hl2] at P6
      clear hp6 hT6 hl2 P5 DX5
      go_wp2_with fail
      refine (P6.out.put (.slice ab nb cb) lb (fun w' hk _ => HB.out w' hk) (by rw [← Hnb.out]; have := Hab.out; have := L2.out; omega) (by rw [← Hnb.out]; have := Hab.out; have := L2.out; omega)).mono ?_
      rintro e w7 ⟨rfl, hp7, hT7⟩
      have P7 := hide hp7
      have DX7 := hide (hT7.dk DX6.out)
      clear hp7 hT7 P6 DX6
      go_wp2_with fail
      refine P7.out.crash.mono ?_
      rintro e w8 ⟨rfl, hp8, hT8⟩
      have P8 := hide hp8
      have DX8 := hide (hT8.dk DX7.out)
      clear hp8 hT8 P7 DX7
      go_wp2_with fail
      refine P8.out.drop.mono ?_
      rintro e w9 ⟨rfl, hp9, hT9⟩
      have P9 : Hid (Pw w w9 db 10 ((l1.saveD s0).crashed []) b ⟨l1.fr, l1.n, [], []⟩) := hide (by
        have h := hp9
        rw [(puts_fr _ _).1, (puts_fr _ _).2, L2.out.1, L2.out.2.1] at h
        rw [F1.out.1, F1.out.2]
        exact h)
      have DX9 := hide (hT9.dk DX8.out)
      clear hp9 hT9 P8 DX8
      go_wp2_with fail
      refine (P9.out.image (by show 1 ≤ l1.n ∧ l1.n ≤ 64; rw [F1.out.2]; decide) (Nat.zero_le _)).mono ?_
      rintro e w10 ⟨dy, he, hp10, hk10, hd10, _⟩
      rw [KP.out.1] at he
      have hd := hd10 KP.out.1
      rw [KP.out.2.1] at hd
      obtain ⟨py, rfl, _⟩ := hd.ptr
      subst he
      have P10 := hide hp10
      have DY10 := hide hd
      have DX10 := hide (DX9.out.kept hk10)
      have HZ : Hid (((l1.saveD s0).crashed []).st.take 192 = BV (List.replicate 192 0)) := hide (by
        have h := keeps_zeros (l := l1) (nd := 10) (by rw [← HS0.out]; exact I1.out)
        rw [F1.out.1, ← HS0.out] at h
        exact h)
      obtain ⟨XB, hXB⟩ : ∃ XB, XB = l1.imgK s0 l1.n := ⟨_, rfl⟩
      obtain ⟨sz, hsz⟩ : ∃ sz, sz = ((l1.saveD s0).crashed []).st := ⟨_, rfl⟩
      have HSZ := hide hsz
      rw [← hXB] at DX10 DY10
      rw [← hsz] at HZ
      obtain ⟨i5, hi5, hz5, hs5, hb5⟩ := info_parts Try.info5
      have Hi5 := hide hi5
      have Hz5 := hide hz5
      have Hs5 := hide hs5
      have Hb5 := hide hb5
      clear hp10 hk10 hd10 hd hXB hsz P9 DX9 hi5 hz5 hs5 hb5
      go_wp2_with fail
      refine hold_frame (p := fun fr => Code.wp Try.prog _ _ fr _) ?_
      intro fr hfr
      have e13 : fr.eval (.tmp 13) = .int .i64 0 := by rw [hfr.out]; rfl
      have e10 : fr.eval (.tmp 10) = .pointer px := by rw [hfr.out]; rfl
      have e12 : fr.eval (.tmp 12) = .pointer py := by rw [hfr.out]; rfl
      have e5 : fr.eval (.tmp 5) = .pointer (some ⟨db, 0, none⟩) := by rw [hfr.out]; rfl
      have hts : fr.tmps.size = 80 := by rw [hfr.out]; rfl
      refine region_S0 99 Try.mixed ?_
      intro w0 hkw hheap
      have PW := hide (P10.out.same hkw)
      have DXW := hide (DX10.out.kept hkw)
      have DYW := hide (DY10.out.kept hkw)
      have hS0 : Kept (fun _ => False) w0 w0 := Kept.refl (fun _ => False) w0
      refine ⟨Kept (fun _ => False) w0, ?_⟩
      refine tkS 0 60 (v := .int .i64 0) hS0 rfl rfl (by kernel_rfl) (by kernel_rfl) (by kernel_rfl) (by kernel_rfl) (wanted_none rfl) (fun _ _ _ h => h) (fun U hU => r_move (by simp [eval_put_ne, eval_put_eq, size_put, hts, e13])) ?_
      refine tkS 1 61 (v := .bool true) hS0 rfl rfl (by kernel_rfl) (by kernel_rfl) (by kernel_rfl) (by kernel_rfl) (wanted_none rfl) (fun _ _ _ h => h) (fun U hU => r_eE (p := 0) (q := 0) (by simp [eval_put_ne, eval_put_eq, size_put, hts]) rfl (by decide)) ?_
      refine tkS 2 62 (v := .bool true) hS0 rfl rfl (by kernel_rfl) (by kernel_rfl) (by kernel_rfl) (by kernel_rfl) (wanted_none rfl) (fun _ _ _ h => h) (fun U hU => r_move (by simp [eval_put_ne, eval_put_eq, size_put, hts])) ?_
      refine tkS 3 63 (v := .pointer px) hS0 rfl rfl (by kernel_rfl) (by kernel_rfl) (by kernel_rfl) (by kernel_rfl) (wanted_some (j := 2) (d := 62) (bb := true) rfl rfl rfl (by simp [eval_put_ne, eval_put_eq, size_put, hts]) (by simp [size_put, hts])) (fun _ _ _ h => h) (fun U hU => r_move (by simp [eval_put_ne, eval_put_eq, size_put, hts, e10])) ?_
      refine tkS 6 66 (v := .pointer py) hS0 rfl rfl (by kernel_rfl) (by kernel_rfl) (by kernel_rfl) (by kernel_rfl) (wanted_some (j := 2) (d := 62) (bb := true) rfl rfl rfl (by simp [eval_put_ne, eval_put_eq, size_put, hts]) (by simp [size_put, hts])) (fun _ _ _ h => h) (fun U hU => r_move (by simp [eval_put_ne, eval_put_eq, size_put, hts, e12])) ?_
      refine oneCS 4 64 (by kernel_rfl) rfl rfl (wanted_some (j := 2) (d := 62) (bb := true) rfl rfl rfl (by simp [eval_put_ne, eval_put_eq, size_put, hts]) (by simp [size_put, hts])) (r_call1 Try.func22 (by kernel_rfl) rfl rfl (by simp [eval_put_ne, eval_put_eq, size_put, hts])) (bytes_at w0 _ _ _ DXW.out) ?_
      rintro e v1 ⟨sx, rfl, ox, k1⟩
      refine ⟨_, rfl, k1, ?_⟩
      refine raiseM (S' := Kept (fun _ => False) v1) (fun U hU => k1.trans hU (fun _ _ h => h)) ?_
      have hS1 : Kept (fun _ => False) v1 v1 := Kept.refl _ v1
      refine tkS 5 65 (v := .string (strN XB)) hS1 rfl rfl (by kernel_rfl) (by kernel_rfl) (by kernel_rfl) (by kernel_rfl) (wanted_some (j := 2) (d := 62) (bb := true) rfl rfl rfl (by simp [eval_put_ne, eval_put_eq, size_put, hts]) (by simp [size_put, hts])) (fun _ _ _ h => h) (fun U hU => r_strS (by simp [eval_put_ne, eval_put_eq, size_put, hts]) (ox.src.kept hU)) ?_
      refine oneCS 7 67 (by kernel_rfl) rfl rfl (wanted_some (j := 2) (d := 62) (bb := true) rfl rfl rfl (by simp [eval_put_ne, eval_put_eq, size_put, hts]) (by simp [size_put, hts])) (r_call1 Try.func22 (by kernel_rfl) rfl rfl (by simp [eval_put_ne, eval_put_eq, size_put, hts])) (bytes_at v1 _ _ _ (DYW.out.kept k1)) ?_
      rintro e v2 ⟨sy, rfl, oy, k2⟩
      refine ⟨_, rfl, k2, ?_⟩
      refine raiseM (S' := Kept (fun _ => False) v2) (fun U hU => k2.trans hU (fun _ _ h => h)) ?_
      have hS2 : Kept (fun _ => False) v2 v2 := Kept.refl _ v2
      refine tkS 8 68 (v := .string (strN XB)) hS2 rfl rfl (by kernel_rfl) (by kernel_rfl) (by kernel_rfl) (by kernel_rfl) (wanted_some (j := 2) (d := 62) (bb := true) rfl rfl rfl (by simp [eval_put_ne, eval_put_eq, size_put, hts]) (by simp [size_put, hts])) (fun _ _ _ h => h) (fun U hU => r_strS (by simp [eval_put_ne, eval_put_eq, size_put, hts]) (oy.src.kept hU)) ?_
      refine tkS 9 69 (v := .bool true) hS2 rfl rfl (by kernel_rfl) (by kernel_rfl) (by kernel_rfl) (by kernel_rfl) (wanted_some (j := 2) (d := 62) (bb := true) rfl rfl rfl (by simp [eval_put_ne, eval_put_eq, size_put, hts]) (by simp [size_put, hts])) (fun _ _ _ h => h) (fun U hU => r_eqSS (A := XB) (by simp [eval_put_ne, eval_put_eq, size_put, hts]) (by simp [eval_put_ne, eval_put_eq, size_put, hts])) ?_
      refine tkS 10 70 (v := .bool true) hS2 rfl rfl (by kernel_rfl) (by kernel_rfl) (by kernel_rfl) (by kernel_rfl) (wanted_none rfl) (fun _ _ _ h => h) (fun U hU => r_pick (by simp [eval_put_ne, eval_put_eq, size_put, hts]) (by simp [eval_put_ne, eval_put_eq, size_put, hts])) ?_
      refine tkS 11 71 (v := .bool true) hS2 rfl rfl (by kernel_rfl) (by kernel_rfl) (by kernel_rfl) (by kernel_rfl) (wanted_none rfl) (fun _ _ _ h => h) (fun U hU => r_move (by simp [eval_put_ne, eval_put_eq, size_put, hts])) ?_
      refine tkS 12 72 (v := .pointer (some ⟨db, 0, none⟩)) hS2 rfl rfl (by kernel_rfl) (by kernel_rfl) (by kernel_rfl) (by kernel_rfl) (wanted_some (j := 11) (d := 71) (bb := true) rfl rfl rfl (by simp [eval_put_ne, eval_put_eq, size_put, hts]) (by simp [size_put, hts])) (fun _ _ _ h => h) (fun U hU => r_move (by simp [eval_put_ne, eval_put_eq, size_put, hts, e5])) ?_
      have PV := hide ((PW.out.same k1).same k2)
      have HZ2 := HZ
      refine twoCVS 13 73 16 76 (v := .slice (some ⟨v2.heap.size, 0, none⟩) 192 192) (by kernel_rfl) rfl rfl (wanted_some (j := 11) (d := 71) (bb := true) rfl rfl rfl (by simp [eval_put_ne, eval_put_eq, size_put, hts]) (by simp [size_put, hts])) (r_call1 Try.func26 (by kernel_rfl) rfl rfl (by simp [eval_put_ne, eval_put_eq, size_put, hts])) (PV.out.dimage) rfl rfl (wanted_some (j := 11) (d := 71) (bb := true) rfl rfl rfl (by simp [eval_put_ne, eval_put_eq, size_put, hts]) (by simp [size_put, hts])) (run_make_op 1 (by decide) Try.underlying41 Hi5.out Hz5.out rfl Hs5.out (n := 192) rfl rfl (by rw [Hb5.out]; decide) (by decide)) (Kept.alloc _ _ _) ?_ ?_
      · rintro e v3 ⟨gi, rfl, bi, p3, k3⟩
        refine ⟨_, rfl, k3, ?_⟩
        refine raiseM (S' := Kept (fun _ => False) v3) (fun U hU => k3.trans hU (fun _ _ h => h)) ?_
        have hS3 : Kept (fun _ => False) v3 v3 := Kept.refl _ v3
        rw [← HSZ.out] at bi
        refine tkS 14 74 (v := .slice (some ⟨gi, 0, none⟩) 192 640) hS3 rfl rfl (by kernel_rfl) (by kernel_rfl) (by kernel_rfl) (by kernel_rfl) (wanted_some (j := 11) (d := 71) (bb := true) rfl rfl rfl (by simp [eval_put_ne, eval_put_eq, size_put, hts]) (by simp [size_put, hts])) (fun _ _ _ h => h) (fun U hU => run_slice_hi (len := 640) (cap := 640) Try.underlying41 Hi5.out (by simp [eval_put_ne, eval_put_eq, size_put, hts]) 192 rfl (by decide) (by decide)) ?_
        refine tkS 15 75 (v := .string (strN (List.replicate 192 0))) hS3 rfl rfl (by kernel_rfl) (by kernel_rfl) (by kernel_rfl) (by kernel_rfl) (wanted_some (j := 11) (d := 71) (bb := true) rfl rfl rfl (by simp [eval_put_ne, eval_put_eq, size_put, hts]) (by simp [size_put, hts])) (fun _ _ _ h => h) (fun U hU => r_strS (by simp [eval_put_ne, eval_put_eq, size_put, hts]) (src_hi (c := 640) HZ.out (hU.blk bi (fun h => h)))) ?_
        refine oneVS 16 76 (v := .slice (some ⟨v3.heap.size, 0, none⟩) 192 192) (by kernel_rfl) rfl rfl (wanted_some (j := 11) (d := 71) (bb := true) rfl rfl rfl (by simp [eval_put_ne, eval_put_eq, size_put, hts]) (by simp [size_put, hts])) (run_make_op 1 (by decide) Try.underlying41 Hi5.out Hz5.out rfl Hs5.out (n := 192) rfl rfl (by rw [Hb5.out]; decide) (by decide)) (Kept.alloc _ _ _) ?_
        have b4 := Blk.newA v3 (List.replicate 192 (Value.int .u8 0)).toArray 5
        have k4 : Kept (fun _ => False) v3 (v3.alloc (.cells (List.replicate 192 (Value.int .u8 0)).toArray 5)) := Kept.alloc _ _ _
        generalize v3.alloc (.cells (List.replicate 192 (Value.int .u8 0)).toArray 5) = v4 at b4 k4 ⊢
        refine raiseM (S' := Kept (fun _ => False) v4) (fun U hU => k4.trans hU (fun _ _ h => h)) ?_
        have hS4 : Kept (fun _ => False) v4 v4 := Kept.refl _ v4
        refine tkS 17 77 (v := .string (strN (List.replicate 192 0))) hS4 rfl rfl (by kernel_rfl) (by kernel_rfl) (by kernel_rfl) (by kernel_rfl) (wanted_some (j := 11) (d := 71) (bb := true) rfl rfl rfl (by simp [eval_put_ne, eval_put_eq, size_put, hts]) (by simp [size_put, hts])) (fun _ _ _ h => h) (fun U hU => r_strS (by simp [eval_put_ne, eval_put_eq, size_put, hts]) (src_zero (hU.blk b4 (fun h => h)))) ?_
        refine tkS 18 78 (v := .bool true) hS4 rfl rfl (by kernel_rfl) (by kernel_rfl) (by kernel_rfl) (by kernel_rfl) (wanted_some (j := 11) (d := 71) (bb := true) rfl rfl rfl (by simp [eval_put_ne, eval_put_eq, size_put, hts]) (by simp [size_put, hts])) (fun _ _ _ h => h) (fun U hU => r_eqSS (A := List.replicate 192 0) (by simp [eval_put_ne, eval_put_eq, size_put, hts]) (by simp [eval_put_ne, eval_put_eq, size_put, hts])) ?_
        refine tkS 19 79 (v := .bool true) hS4 rfl rfl (by kernel_rfl) (by kernel_rfl) (by kernel_rfl) (by kernel_rfl) (wanted_none rfl) (fun _ _ _ h => h) (fun U hU => r_pick (by simp [eval_put_ne, eval_put_eq, size_put, hts]) (by simp [eval_put_ne, eval_put_eq, size_put, hts])) ?_
        refine tkS 20 4 (v := .bool true) hS4 rfl rfl (by kernel_rfl) (by kernel_rfl) (by kernel_rfl) (by kernel_rfl) (wanted_none rfl) (fun _ _ _ h => h) (fun U hU => r_assign (by simp [eval_put_ne, eval_put_eq, size_put, hts])) ?_
        refine doneS (by kernel_rfl) ?_
        have KF := hide (p3.kept.trans k4 (fun _ _ h => h))
        rw [hfr.out]
        clear hfr e13 e10 e12 e5 hts
        simp only [put_lit, put_none, List.set_cons_succ, List.set_cons_zero]
        go_wp2
        go_ret
        exact ⟨rfl, KF.out⟩
      · have b4 := Blk.newA v2 (List.replicate 192 (Value.int .u8 0)).toArray 5
        have k4 : Kept (fun _ => False) v2 (v2.alloc (.cells (List.replicate 192 (Value.int .u8 0)).toArray 5)) := Kept.alloc _ _ _
        generalize v2.alloc (.cells (List.replicate 192 (Value.int .u8 0)).toArray 5) = v4 at b4 k4 ⊢
        refine raiseM (S' := Kept (fun _ => False) v4) (fun U hU => k4.trans hU (fun _ _ h => h)) ?_
        have hS4 : Kept (fun _ => False) v4 v4 := Kept.refl _ v4
        refine tkS 17 77 (v := .string (strN (List.replicate 192 0))) hS4 rfl rfl (by kernel_rfl) (by kernel_rfl) (by kernel_rfl) (by kernel_rfl) (wanted_some (j := 11) (d := 71) (bb := true) rfl rfl rfl (by simp [eval_put_ne, eval_put_eq, size_put, hts]) (by simp [size_put, hts])) (fun _ _ _ h => h) (fun U hU => r_strS (by simp [eval_put_ne, eval_put_eq, size_put, hts]) (src_zero (hU.blk b4 (fun h => h)))) ?_
        refine oneCS 13 73 (by kernel_rfl) rfl rfl (wanted_some (j := 11) (d := 71) (bb := true) rfl rfl rfl (by simp [eval_put_ne, eval_put_eq, size_put, hts]) (by simp [size_put, hts])) (r_call1 Try.func26 (by kernel_rfl) rfl rfl (by simp [eval_put_ne, eval_put_eq, size_put, hts])) ((PV.out.same k4).dimage) ?_
        rintro e v3 ⟨gi, rfl, bi, p3, k3⟩
        refine ⟨_, rfl, k3, ?_⟩
        refine raiseM (S' := Kept (fun _ => False) v3) (fun U hU => k3.trans hU (fun _ _ h => h)) ?_
        have hS3 : Kept (fun _ => False) v3 v3 := Kept.refl _ v3
        rw [← HSZ.out] at bi
        refine tkS 14 74 (v := .slice (some ⟨gi, 0, none⟩) 192 640) hS3 rfl rfl (by kernel_rfl) (by kernel_rfl) (by kernel_rfl) (by kernel_rfl) (wanted_some (j := 11) (d := 71) (bb := true) rfl rfl rfl (by simp [eval_put_ne, eval_put_eq, size_put, hts]) (by simp [size_put, hts])) (fun _ _ _ h => h) (fun U hU => run_slice_hi (len := 640) (cap := 640) Try.underlying41 Hi5.out (by simp [eval_put_ne, eval_put_eq, size_put, hts]) 192 rfl (by decide) (by decide)) ?_
        refine tkS 15 75 (v := .string (strN (List.replicate 192 0))) hS3 rfl rfl (by kernel_rfl) (by kernel_rfl) (by kernel_rfl) (by kernel_rfl) (wanted_some (j := 11) (d := 71) (bb := true) rfl rfl rfl (by simp [eval_put_ne, eval_put_eq, size_put, hts]) (by simp [size_put, hts])) (fun _ _ _ h => h) (fun U hU => r_strS (by simp [eval_put_ne, eval_put_eq, size_put, hts]) (src_hi (c := 640) HZ.out (hU.blk bi (fun h => h)))) ?_
        refine tkS 18 78 (v := .bool true) hS3 rfl rfl (by kernel_rfl) (by kernel_rfl) (by kernel_rfl) (by kernel_rfl) (wanted_some (j := 11) (d := 71) (bb := true) rfl rfl rfl (by simp [eval_put_ne, eval_put_eq, size_put, hts]) (by simp [size_put, hts])) (fun _ _ _ h => h) (fun U hU => r_eqSS (A := List.replicate 192 0) (by simp [eval_put_ne, eval_put_eq, size_put, hts]) (by simp [eval_put_ne, eval_put_eq, size_put, hts])) ?_
        refine tkS 19 79 (v := .bool true) hS3 rfl rfl (by kernel_rfl) (by kernel_rfl) (by kernel_rfl) (by kernel_rfl) (wanted_none rfl) (fun _ _ _ h => h) (fun U hU => r_pick (by simp [eval_put_ne, eval_put_eq, size_put, hts]) (by simp [eval_put_ne, eval_put_eq, size_put, hts])) ?_
        refine tkS 20 4 (v := .bool true) hS3 rfl rfl (by kernel_rfl) (by kernel_rfl) (by kernel_rfl) (by kernel_rfl) (wanted_none rfl) (fun _ _ _ h => h) (fun U hU => r_assign (by simp [eval_put_ne, eval_put_eq, size_put, hts])) ?_
        refine doneS (by kernel_rfl) ?_
        have KF := hide (p3.kept)
        rw [hfr.out]
        clear hfr e13 e10 e12 e5 hts
        simp only [put_lit, put_none, List.set_cons_succ, List.set_cons_zero]
        go_wp2
        go_ret
        exact ⟨rfl, KF.out⟩
    · have hl : l1 = l0 := (Hcs.out.resolve_left he0).2
      have HL := hide hl
      rcases hcs with h | rfl | rfl
      · exact absurd h he0
      · go_wp2_with fail
        refine HP.out.mono ?_
        rintro e w4 ⟨rfl, hp4, hT4⟩
        have P4 := hide hp4
        clear hp4 hT4
        go_wp2_with fail
        refine (P4.out.dirty (by have := N1.out; omega)).mono ?_
        rintro e w5 ⟨kv, rfl, ho, hp5, hk5⟩
        rw [HL.out, L0.out.2.2.2] at ho
        obtain ⟨ao, c5, rfl⟩ := ownsRow_slice ho
        have K5 := hide hp5.kept
        clear ho hp5 hk5
        simp only [List.length_nil]
        go_wp2
        go_ret
        exact ⟨rfl, K5.out⟩
      · go_wp2_with fail
        refine HP.out.mono ?_
        rintro e w4 ⟨rfl, hp4, hT4⟩
        have P4 := hide hp4
        clear hp4 hT4
        go_wp2_with fail
        refine (P4.out.dirty (by have := N1.out; omega)).mono ?_
        rintro e w5 ⟨kv, rfl, ho, hp5, hk5⟩
        rw [HL.out, L0.out.2.2.2] at ho
        obtain ⟨ao, c5, rfl⟩ := ownsRow_slice ho
        have K5 := hide hp5.kept
        clear ho hp5 hk5
        simp only [List.length_nil]
        go_wp2
        go_ret
        exact ⟨rfl, K5.out⟩
end Go.Proofs.Ytnlcmgdeohbmoaa
