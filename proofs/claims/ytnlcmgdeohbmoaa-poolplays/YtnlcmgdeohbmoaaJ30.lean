/-
  What a pool tells, saves and keeps, without memory.
-/
import Derived.Test.YtnlcmgdeohbmoaaJ29
namespace Go.Proofs.Ytnlcmgdeohbmoaa
open Go.RowKit Go.Shelf
set_option linter.unusedSimpArgs false
set_option linter.unusedVariables false
set_option maxRecDepth 100000

theorem D_laidTo_app (kf : Nat → Bool) (ws vs : List (Nat × List Value)) (st : List Value) : ∀ k, k ≤ ws.length → D.laidTo kf (ws ++ vs) st k = D.laidTo kf ws st k
  | 0, _ => rfl
  | k + 1, h => by
    have ih := D_laidTo_app kf ws vs st k (by omega)
    have hp : ws[k]? = some ws[k] := List.getElem?_eq_getElem (by omega)
    rw [D.laidTo_succ kf ws st k _ hp, D.laidTo_succ kf (ws ++ vs) st k ws[k] (by rw [List.getElem?_append_left (by omega)]; exact hp), ih]
theorem D_view_snoc (ws : List (Nat × List Value)) (p : Nat × List Value) (st : List Value) : D.view (ws ++ [p]) st (ws ++ [p]).length = put (D.view ws st ws.length) (64 * p.1) p.2 := by
  unfold D.view
  rw [List.length_append, List.length_singleton, D.laidTo_succ (fun _ => true) (ws ++ [p]) st ws.length p (by simp), D_laidTo_app _ _ _ _ _ (Nat.le_refl _)]
  rfl
theorem getP_mem {l : List EntP} (hs : Sorted ltI l) {k : Int} {x : Bk} : getP l k = some x ↔ (k, x) ∈ l := by
  constructor
  · intro h
    have hh : hasK ltI l k = true := by
      cases hh : hasK ltI l k with
      | true => rfl
      | false => unfold getP at h; rw [if_neg (by rw [hh]; decide)] at h; cases h
    rw [getP_some hh] at h
    have hk := hasK_key strictI hh
    have hm := List.getElem_mem (hasK_lt hh)
    generalize l[posK ltI l k]'(hasK_lt hh) = e at h hk hm
    obtain ⟨a, y⟩ := e
    simp only at hk
    have := Option.some.inj h
    simp only at this
    subst hk this
    exact hm
  · intro h
    obtain ⟨i, hi, he⟩ := List.getElem_of_mem h
    have hk : l[i].1 = k := by rw [he]
    have hp : i = posK ltI l k := posK_eq (by omega) (fun j hj hji => by have := hs.get hj hi hji; rw [hk] at this; exact this) (fun _ => by rw [hk]; exact strictI.irr k)
    have hh : hasK ltI l k = true := (hasK_iff strictI hs).2 ⟨x, h⟩
    rw [getP_some hh]
    have : l[posK ltI l k]'(hasK_lt hh) = l[i] := by simp [← hp]
    rw [this, he]
theorem mem_putK_keep {l : List EntP} {k : Int} {v : Bk} {e : EntP} (h : e ∈ l) (hne : e.1 ≠ k) : e ∈ putK ltI l k v := by
  unfold putK
  split
  · rename_i hh
    obtain ⟨i, hi, rfl⟩ := List.getElem_of_mem h
    have hk := hasK_key strictI hh
    have hip : posK ltI l k ≠ i := fun e => hne (by subst e; exact hk)
    rw [List.mem_iff_getElem?]
    exact ⟨i, by rw [List.getElem?_set_ne hip, List.getElem?_eq_getElem hi]⟩
  · unfold insK
    rw [← List.take_append_drop (posK ltI l k) l] at h
    rcases List.mem_append.1 h with h | h
    · exact List.mem_append_left _ h
    · exact List.mem_append_right _ (List.mem_cons_of_mem _ h)
theorem mem_putK_off {l : List EntP} (hs : Sorted ltI l) {k : Int} {v : Bk} {e : EntP} (h : e ∈ putK ltI l k v) (hne : e.1 ≠ k) : e ∈ l := by
  rcases mem_putK h with rfl | h
  · exact absurd rfl hne
  · exact h
theorem getP_put {l : List EntP} (hs : Sorted ltI l) (k : Int) (v : Bk) (j : Int) : getP (putK ltI l k v) j = if j = k then some v else getP l j := by
  have hs2 := hs.put strictI k v
  split
  · rename_i h
    subst h
    exact (getP_mem hs2).2 (mem_putK_self _ _ _ _)
  · rename_i h
    apply Option.ext
    intro x
    rw [getP_mem hs2, getP_mem hs]
    exact ⟨fun hm => mem_putK_off hs hm h, fun hm => mem_putK_keep hm h⟩
theorem putsP_sorted {l : List EntP} (hs : Sorted ltI l) : ∀ ws : List Wr, Sorted ltI (putsP l ws) := by
  intro ws
  induction ws generalizing l with
  | nil => exact hs
  | cons w ws ih => exact ih (hs.put strictI _ _)
theorem putsP_keys {n : Nat} {l : List EntP} (h : ∀ e ∈ l, 0 ≤ e.1 ∧ e.1 < n) : ∀ (ws : List Wr), withE n ws = 0 → ∀ e ∈ putsP l ws, 0 ≤ e.1 ∧ e.1 < n := by
  intro ws
  induction ws generalizing l with
  | nil => intro _ ; exact h
  | cons w ws ih =>
    intro hw
    obtain ⟨m, h1, h2, h3, h4⟩ := withE_cons hw
    refine ih (l := putK ltI l w.blk (mkBk w.B)) ?_ h4
    intro e he
    rcases mem_putK he with rfl | he
    · simp only [h1]; omega
    · exact h e he
/-- A device that never fails. -/
structure Good (s : D.DS) (nd : Nat) : Prop where
  off : s.off = false
  left : s.left = -1
  view : s.view.length = 64 * nd
  byte : ∀ v ∈ s.view, D.isByte v
theorem Good.err {s : D.DS} {nd : Nat} (h : Good s nd) : wErr s = 0 := by simp [wErr, h.off, h.left]
theorem Good.errF {s : D.DS} {nd : Nat} (h : Good s nd) : s.errF = 0 := by simp [D.DS.errF, D.DS.errS, h.off, h.left]
theorem Good.wView {s : D.DS} {nd : Nat} (h : Good s nd) (a : Nat) {A : List Nat} (hA : A.length = 64) : (wDev s a 1 A).view = put s.view (64 * a) (BV A) := by
  have e : D.secs a (BV A) 1 = [(a, BV A)] := by
    simp only [D.secs, List.range_one, List.map_cons, List.map_nil, Nat.add_zero, D.sec, Nat.mul_zero, List.drop_zero]
    rw [List.take_of_length_le (by rw [BV_length, hA]; exact Nat.le_refl _)]
  have : wDev s a 1 A = { s.spent with ws := s.ws ++ [(a, BV A)] } := by
    simp [wDev, h.off, h.left, D.DS.written, e]
  rw [this]
  have hst : s.spent.st = s.st := by simp [D.DS.spent, h.left]
  show D.view (s.ws ++ [(a, BV A)]) s.spent.st (s.ws ++ [(a, BV A)]).length = _
  rw [hst, D_view_snoc]
  rfl
theorem Good.wDev {s : D.DS} {nd : Nat} (h : Good s nd) {a : Nat} (ha : a < nd) {A : List Nat} (hA : A.length = 64) (hB : ∀ x ∈ A, x < 256) : Good (wDev s a 1 A) nd := by
  refine ⟨?_, ?_, ?_, ?_⟩
  · simp [Go.Proofs.Ytnlcmgdeohbmoaa.wDev, h.off, h.left, D.DS.written, D.DS.spent]
  · simp [Go.Proofs.Ytnlcmgdeohbmoaa.wDev, h.off, h.left, D.DS.written, D.DS.spent]
  · rw [h.wView a hA, length_put _ _ _ (by rw [BV_length, hA, h.view]; omega), h.view]
  · rw [h.wView a hA]; exact D.put_byte _ _ _ h.byte (BV_isByte hB)
theorem Good.flushed {s : D.DS} {nd : Nat} (h : Good s nd) : Good s.flushed nd ∧ s.flushed.view = s.view ∧ s.flushed.st = s.view ∧ s.flushed.ws = [] := by
  have e : s.flushed = { s.spent with st := s.view, ws := [] } := by simp [D.DS.flushed, h.off, h.left]
  rw [e]
  have hv : D.DS.view { s.spent with st := s.view, ws := [] } = s.view := rfl
  refine ⟨⟨?_, ?_, ?_, ?_⟩, hv, rfl, rfl⟩
  · simp [D.DS.spent, h.left, h.off]
  · simp [D.DS.spent, h.left]
  · rw [hv]; exact h.view
  · rw [hv]; exact h.byte
theorem Good.new {n : Nat} : Good (D.DS.new n) n ∧ (D.DS.new n).view = List.replicate (n * 64) (.int .u8 0) := by
  have : (D.DS.new n).view = List.replicate (n * 64) (.int .u8 0) := rfl
  refine ⟨⟨rfl, rfl, ?_, ?_⟩, this⟩
  · rw [this, List.length_replicate, Nat.mul_comm]
  · rw [this]; intro v hv; rw [List.eq_of_mem_replicate hv]; exact D.isByte.zero
theorem part_put_same {L M : List Value} {n a : Nat} (hl : L.length = 64 * n) (hM : M.length = 64) (h : a < n) : D.part (put L (64 * a) M) a 1 = M := by
  rw [D.part_put_in L M n a 1 a hl hM (by omega) (Nat.le_refl _) (by omega), Nat.sub_self, Nat.mul_zero, put_whole _ _ (by rw [D.part_length L n a 1 hl (by omega), hM])]
/-- What blocks written one after the other leave. -/
theorem runW_good {fr nd : Nat} : ∀ {L : List EntP} {s : D.DS}, Good s nd → (∀ e ∈ L, fr + e.1.toNat < nd) → (runW fr L s).2 = 0 ∧ Good (runW fr L s).1 nd ∧ ∀ q, q < nd → (∀ e ∈ L, fr + e.1.toNat ≠ q) → D.part (runW fr L s).1.view q 1 = D.part s.view q 1
  | [], s, h, _ => ⟨rfl, h, fun _ _ _ => rfl⟩
  | e :: L, s, h, hin => by
    have h1 := hin e (by simp)
    have hg := h.wDev h1 e.2.len e.2.lt
    obtain ⟨i1, i2, i3⟩ := runW_good (L := L) hg (fun x hx => hin x (by simp [hx]))
    simp only [runW, h.err, if_true]
    refine ⟨i1, i2, fun q hq hne => ?_⟩
    rw [i3 q hq (fun x hx => hne x (by simp [hx])), h.wView _ e.2.len]
    have hne1 := hne e (by simp)
    exact D.part_put_out s.view (BV e.2.B) nd q 1 (fr + e.1.toNat) h.view (BVk_length e.2) h1 (by omega)
theorem runW_has {fr nd : Nat} : ∀ {L : List EntP} {s : D.DS}, Good s nd → (∀ e ∈ L, 0 ≤ e.1 ∧ fr + e.1.toNat < nd) → Sorted ltI L → ∀ {k : Int} {x : Bk}, (k, x) ∈ L → D.part (runW fr L s).1.view (fr + k.toNat) 1 = BV x.B
  | [], s, h, _, _, k, x, hm => by simp at hm
  | e :: L, s, h, hin, hs, k, x, hm => by
    have h1 := hin e (by simp)
    have hg := h.wDev h1.2 e.2.len e.2.lt
    have hs2 := (List.pairwise_cons.1 hs).2
    have hlt := (List.pairwise_cons.1 hs).1
    simp only [runW, h.err, if_true]
    rcases List.mem_cons.1 hm with rfl | hm
    · have := (runW_good (L := L) hg (fun x hx => (hin x (by simp [hx])).2)).2.2 (fr + k.toNat) h1.2 (fun y hy => by
        have h2 := hlt y hy
        have h3 := hin y (by simp [hy])
        simp [ltI] at h2
        simp only at h1
        omega)
      rw [this, h.wView _ x.len]
      exact part_put_same h.view (BVk_length x) h1.2
    · exact runW_has hg (fun x hx => hin x (by simp [hx])) hs2 hm
/-- The pool and its device agree: what isn't dirty lies there, what is dirty is in hand. -/
structure Inv (l : PL) (s : D.DS) (nd : Nat) : Prop where
  good : Good s nd
  fit : l.fr + l.n ≤ nd
  sh : Sorted ltI l.hand
  sd : Sorted ltI l.dirty
  kd : ∀ e ∈ l.dirty, 0 ≤ e.1 ∧ e.1 < l.n
  sub : ∀ k x, getP l.dirty k = some x → getP l.hand k = some x
  lies : ∀ k : Nat, k < l.n → getP l.dirty k = none → NV (D.part s.view (l.fr + k) 1) = l.getV s k
theorem Good.getE {l : PL} {s : D.DS} {nd : Nat} (h : Good s nd) (k : Nat) : l.getE s k = 0 := by
  unfold PL.getE
  split
  · rfl
  · rw [h.off]; rfl
theorem Inv.img {l : PL} {s : D.DS} {nd : Nat} (h : Inv l s nd) : l.imgE s = 0 := by
  unfold PL.imgE
  rw [if_pos]
  rw [List.all_eq_true]
  intro m _
  simp [h.good.getE m]
theorem Inv.new {nd fr n : Nat} (hf : fr + n ≤ nd) : Inv ⟨fr, n, [], []⟩ (D.DS.new nd) nd :=
  ⟨Good.new.1, hf, List.Pairwise.nil, List.Pairwise.nil, by simp, fun k x h => by simp [getP, hasK] at h, fun k hk _ => by simp [PL.getV, getP, hasK, Good.new.1.off]⟩
theorem Inv.put1 {l : PL} {s : D.DS} {nd : Nat} (h : Inv l s nd) {k : Int} (x : Bk) (hk : 0 ≤ k ∧ k < l.n) : Inv { l with hand := putK ltI l.hand k x, dirty := putK ltI l.dirty k x } s nd := by
  refine ⟨h.good, h.fit, h.sh.put strictI k x, h.sd.put strictI k x, fun e he => ?_, fun j y hy => ?_, fun j hj hy => ?_⟩
  · rcases mem_putK he with rfl | he
    · exact hk
    · exact h.kd e he
  · rw [getP_put h.sd] at hy
    rw [getP_put h.sh]
    split at hy
    · rename_i e; rw [if_pos e]; exact hy
    · rename_i e; rw [if_neg e]; exact h.sub j y hy
  · rw [getP_put h.sd] at hy
    split at hy
    · cases hy
    · rename_i e
      have := h.lies j hj hy
      unfold PL.getV at this ⊢
      simp only [getP_put h.sh, if_neg e]
      exact this
theorem Inv.puts {l : PL} {s : D.DS} {nd : Nat} : ∀ (ws : List Wr) {l : PL}, Inv l s nd → withE l.n ws = 0 → Inv (l.puts ws) s nd
  | [], l, h, _ => h
  | w :: ws, l, h, hw => by
    obtain ⟨m, h1, h2, h3, h4⟩ := withE_cons hw
    exact Inv.puts (l := l) ws (h.put1 (mkBk w.B) (by rw [h1]; omega)) h4
theorem Inv.putE {l : PL} {s : D.DS} {nd : Nat} (h : Inv l s nd) (ws : List Wr) : Inv (l.putE ws) s nd := by
  unfold PL.putE
  split
  · rename_i hw; exact Inv.puts (l := l) ws h hw
  · exact h
/-- What Save does. -/
theorem Inv.save {l : PL} {s : D.DS} {nd : Nat} (h : Inv l s nd) : l.saveE s = 0 ∧ l.saveP s = { l with dirty := [] } ∧ Inv (l.saveP s) (l.saveD s) nd ∧ (l.saveD s).st = (l.saveD s).view ∧ (l.saveD s).ws = [] ∧
    (∀ k, k < l.n → D.part (l.saveD s).view (l.fr + k) 1 = BV (l.getV s k)) ∧ (∀ q, q < l.fr → D.part (l.saveD s).view q 1 = D.part s.view q 1) ∧ (∀ k, k < l.n → (l.saveP s).getV (l.saveD s) k = l.getV s k) := by
  have hfit := h.fit
  have hin : ∀ e ∈ l.dirty, l.fr + e.1.toNat < nd := fun e he => by have := h.kd e he; omega
  obtain ⟨r1, r2, r3⟩ := runW_good (fr := l.fr) h.good hin
  obtain ⟨f1, f2, f3, f4⟩ := r2.flushed
  have hE : l.saveE s = 0 := by unfold PL.saveE; rw [if_pos r1]; exact r2.errF
  have hD : l.saveD s = (runW l.fr l.dirty s).1.flushed := by unfold PL.saveD; rw [if_pos r1]
  have hP : l.saveP s = { l with dirty := [] } := by unfold PL.saveP; rw [if_pos hE]
  have hview : ∀ k, k < l.n → D.part (l.saveD s).view (l.fr + k) 1 = BV (l.getV s k) := by
    intro k hk
    rw [hD, f2]
    cases hg : getP l.dirty (k : Int) with
    | some x =>
      have h1 := runW_has (fr := l.fr) h.good (fun e he => ⟨(h.kd e he).1, hin e he⟩) h.sd ((getP_mem h.sd).1 hg)
      rw [Int.toNat_natCast] at h1
      rw [h1]
      unfold PL.getV
      rw [h.sub _ _ hg]
    | none =>
      have hq : ∀ e ∈ l.dirty, l.fr + e.1.toNat ≠ l.fr + k := fun e he hq => by
        have h1 := h.kd e he
        have h2 : e.1 = (k : Int) := by omega
        have : getP l.dirty (k : Int) = some e.2 := (getP_mem h.sd).2 (by rw [← h2]; exact he)
        rw [hg] at this
        cases this
      rw [r3 (l.fr + k) (by omega) hq, ← h.lies k hk hg, BV_NV]
      exact part_byte h.good.byte _ _
  have hval : ∀ k, k < l.n → (l.saveP s).getV (l.saveD s) k = l.getV s k := by
    intro k hk
    rw [hP]
    unfold PL.getV
    simp only
    cases hx : getP l.hand (k : Int) with
    | some x => rfl
    | none =>
      have hoff : (l.saveD s).off = false := by rw [hD]; exact f1.off
      simp only [hoff, h.good.off]
      have h1 := hview k hk
      unfold PL.getV at h1
      rw [hx] at h1
      simp only [h.good.off] at h1
      have := congrArg NV h1
      rw [NV_BV] at this
      simpa using this
  refine ⟨hE, hP, ⟨?_, ?_, ?_, ?_, ?_, ?_, ?_⟩, ?_, ?_, hview, ?_, hval⟩
  · rw [hD]; exact f1
  · rw [hP]; exact hfit
  · rw [hP]; exact h.sh
  · rw [hP]; exact List.Pairwise.nil
  · rw [hP]; simp
  · rw [hP]; intro k x hx; simp [getP, hasK] at hx
  · intro k hk _
    have hk2 : k < l.n := by rw [hP] at hk; exact hk
    rw [hval k hk2]
    have := hview k hk2
    rw [show (l.saveP s).fr = l.fr by rw [hP], this, NV_BV]
  · rw [hD, f3, f2]
  · rw [hD]; exact f4
  · intro q hq
    rw [hD, f2]
    exact r3 q (by omega) (fun e he hh => by omega)
end Go.Proofs.Ytnlcmgdeohbmoaa

/-
  A pool and its device in a straight line of calls.
-/
namespace Go.Proofs.Ytnlcmgdeohbmoaa
open Go.RowKit Go.Shelf
set_option linter.unusedSimpArgs false
set_option linter.unusedVariables false
set_option maxRecDepth 100000

/-- No block but those of devices and pools has changed. -/
def KeptT (w w' : World) : Prop := ∀ g L t, t ≠ 72 → t ≠ 129 → t ≠ 131 → t ≠ 76 → t ≠ 112 → t ≠ 109 → Blk w g L t → Blk w' g L t
theorem KeptT.of {w w' : World} (h : Kept (fun _ => False) w w') : KeptT w w' := fun g L t _ _ _ _ _ _ hb => h.blk hb (fun h => h)
theorem KeptT.trans {a b c : World} (h : KeptT a b) (k : KeptT b c) : KeptT a c := fun g L t h1 h2 h3 h4 h5 h6 hb => k g L t h1 h2 h3 h4 h5 h6 (h g L t h1 h2 h3 h4 h5 h6 hb)
theorem KeptT.dk {w w' : World} (h : KeptT w w') {d : Value} {n : Nat} {B : List Nat} (hd : DkAt w d n B) : DkAt w' d n B := by
  rcases hd with hd | ⟨h1, h2, h3, h4, b, g, cap, C, h5, h6, h7, h8⟩
  · exact .inl hd
  · exact .inr ⟨h1, h2, h3, h4, b, g, cap, C, h5, h _ _ _ (by decide) (by decide) (by decide) (by decide) (by decide) (by decide) h6, h _ _ _ (by decide) (by decide) (by decide) (by decide) (by decide) (by decide) h7, h8⟩
theorem keptT_pd {w w' : World} {db nd : Nat} {s : D.DS} {b : Nat} {l : PL} {F X : NSet} (h : PDv w db nd s b l F X) (hk : Kept (fun k => F k ∨ X k) w w') : KeptT w w' := by
  intro g L t h1 h2 h3 h4 h5 h6 hb
  refine hk.blk hb ?_
  rintro (hf | hx)
  · exact DevAt_nb h.dev hb h1 h2 h3 hf
  · obtain ⟨ph, vh, pd, vd, hp, hxx⟩ := h.pool
    rcases (hxx g).1 hx with e | e | e
    · subst e; exact h4 (hb.same hp.blk).2
    · exact hp.hm.ne_own hb h5 h6 e
    · exact hp.dm.ne_own hb h5 h6 e
/-- A device and a pool over it, made since w0. -/
structure Pw (w0 w : World) (db nd : Nat) (s : D.DS) (b : Nat) (l : PL) : Prop where
  pd : ∃ F X, PDv w db nd s b l F X ∧ ∀ k, F k ∨ X k → w0.heap.size ≤ k
  kept : Kept (fun _ => False) w0 w
section
variable {w0 w w' : World} {db nd b : Nat} {s s' : D.DS} {l l' : PL}
theorem Pw.same (h : Pw w0 w db nd s b l) (hk : Kept (fun _ => False) w w') : Pw w0 w' db nd s b l := by
  obtain ⟨F, X, hp, hb⟩ := h.pd
  exact ⟨⟨F, X, hp.kept hk, hb⟩, h.kept.trans hk (fun _ _ h => h)⟩
theorem Pw.step (h : Pw w0 w db nd s b l) {F X : NSet} (hp : PDv w db nd s b l F X) (hb : ∀ k, F k ∨ X k → w0.heap.size ≤ k) (hs : PDStep w w' db nd s' b l' F X) : Pw w0 w' db nd s' b l' ∧ KeptT w w' := by
  obtain ⟨hk, F', X', hp', hn⟩ := hs
  refine ⟨⟨⟨F', X', hp', fun k hk' => (hn k hk').elim (hb k) (fun h2 => Nat.le_trans h.kept.size h2)⟩, h.kept.trans hk (fun k hk' h2 => ?_)⟩, keptT_pd hp hk⟩
  have := hb k h2
  omega
theorem PDv.ofP {F X : NSet} (h : PDv w db nd s b l F X) (hs : PStep w w' b db l' X) (hfr : l'.fr = l.fr) (hn : l'.n = l.n) : PDStep w w' db nd s b l' F X := by
  obtain ⟨hk, X', hp, hX⟩ := hs
  refine ⟨hk.mono (fun _ _ h => .inr h), F, X', ⟨h.dev.kept hk (fun k hf hx => h.ap k hx hf), hp, fun k hx hf => ?_, by rw [hfr, hn]; exact h.fit⟩, fun k hk' => ?_⟩
  · rcases hX k hx with h2 | h2
    · exact h.ap k h2 hf
    · have := h.dev.lt k hf; omega
  · rcases hk' with h2 | h2
    · exact .inl (.inl h2)
    · exact (hX k h2).imp .inr id
theorem PDv.ofD {F X : NSet} (h : PDv w db nd s b l F X) (hs : D.DevStep w w' db nd s' F) : PDStep w w' db nd s' b l F X := by
  obtain ⟨hk, F', hd, hF⟩ := hs
  refine ⟨hk.mono (fun _ _ h => .inl h), F', X, ⟨hd, h.pool.kept hk (fun k hx hf => h.ap k hx hf), fun k hx hf => ?_, h.fit⟩, fun k hk' => ?_⟩
  · rcases hF k hf with h2 | h2
    · exact h.ap k hx h2
    · have := h.pool.lt k hx; omega
  · rcases hk' with h2 | h2
    · exact (hF k h2).imp .inl id
    · exact .inl (.inr h2)
theorem puts_fr (l : PL) (ws : List Wr) : (l.putE ws).fr = l.fr ∧ (l.putE ws).n = l.n := by
  unfold PL.putE
  split <;> exact ⟨rfl, rfl⟩
theorem Pw.put (h : Pw w0 w db nd s b l) (v : Value) (ws : List Wv) (hw : ∀ w', Kept (fun _ => False) w0 w' → KeptT w w' → WsAt w' v ws) (hl1 : l.hand.length + ws.length ≤ 900000) (hl2 : l.dirty.length + ws.length ≤ 900000) :
    Calls Try.prog 14 #[.pointer (some ⟨b, 0, none⟩), v] w fun e w' => e = .returned (.int .i64 (withE l.n (ws.map Wv.wr))) ∧ Pw w0 w' db nd s b (l.putE (ws.map Wv.wr)) ∧ KeptT w w' := by
  obtain ⟨F, X, hp, hb⟩ := h.pd
  refine (poolput_at w b db l X hp.pool v ws (fun w' hk => hw w' (h.kept.trans hk (fun k hk' hx => by have := hb k (.inr hx); omega)) (keptT_pd hp (hk.mono (fun _ _ h => .inr h)))) hl1 hl2).mono ?_
  rintro e w' ⟨rfl, hs⟩
  exact ⟨rfl, h.step hp hb (hp.ofP hs (puts_fr _ _).1 (puts_fr _ _).2)⟩
theorem Pw.drop (h : Pw w0 w db nd s b l) : Calls Try.prog 13 #[.pointer (some ⟨b, 0, none⟩)] w fun e w' => e = .returned (.tuple #[]) ∧ Pw w0 w' db nd s b ⟨l.fr, l.n, [], []⟩ ∧ KeptT w w' := by
  obtain ⟨F, X, hp, hb⟩ := h.pd
  refine (drop_at w b db l X hp.pool).mono ?_
  rintro e w' ⟨rfl, hs⟩
  exact ⟨rfl, h.step hp hb (hp.ofP hs rfl rfl)⟩
theorem Pw.dirty (h : Pw w0 w db nd s b l) (hl : l.dirty.length ≤ 1000000) : Calls Try.prog 16 #[.pointer (some ⟨b, 0, none⟩)] w fun e w' => ∃ kv, e = .returned kv ∧ w'.ownsRow 0 3 1 kv l.dirty.length (l.dirty.map fun x => (Value.int .i64 (x.1))) ∧ Pw w0 w' db nd s b l ∧ Kept (fun _ => False) w w' := by
  obtain ⟨F, X, hp, hb⟩ := h.pd
  refine (dirty_at w b db l X hp.pool hl).mono ?_
  rintro e w' ⟨kv, rfl, ho, hk⟩
  exact ⟨kv, rfl, ho, h.same hk, hk⟩
theorem Pw.get (h : Pw w0 w db nd s b l) (m : Nat) (hm : m < l.n) (hl : l.hand.length ≤ 1000000) : Calls Try.prog 11 #[.pointer (some ⟨b, 0, none⟩), .int .i64 m] w fun e w' => ∃ sl : Sl, e = .returned (.tuple #[.slice sl.a sl.n sl.c, .int .i64 (l.getE s m)]) ∧ Src w' sl.v (l.getV s m) ∧ Pw w0 w' db nd s b l ∧ Kept (fun _ => False) w w' := by
  obtain ⟨F, X, hp, hb⟩ := h.pd
  refine (poolget_at w db nd s b l F X hp m hm hl).mono ?_
  rintro e w' ⟨sl, rfl, hs, hk⟩
  exact ⟨sl, rfl, hs, h.same hk, hk⟩
theorem Pw.save (h : Pw w0 w db nd s b l) (hl : l.dirty.length ≤ 1000000) (hc : s.calls ≤ 1000000000) (hws : s.ws.length ≤ 100000000) (hin : ∀ e ∈ l.dirty, 0 ≤ e.1 ∧ e.1 < l.n) : Calls Try.prog 15 #[.pointer (some ⟨b, 0, none⟩)] w fun e w' => e = .returned (.int .i64 (l.saveE s)) ∧ Pw w0 w' db nd (l.saveD s) b (l.saveP s) ∧ KeptT w w' := by
  obtain ⟨F, X, hp, hb⟩ := h.pd
  refine (poolsave_at w db nd s b l F X hp hl hc hws hin).mono ?_
  rintro e w' ⟨rfl, hs⟩
  exact ⟨rfl, h.step hp hb hs⟩
theorem Pw.image (h : Pw w0 w db nd s b l) (hn : 1 ≤ l.n ∧ l.n ≤ 64) (hl : l.hand.length ≤ 1000000) : Calls Try.prog 12 #[.pointer (some ⟨b, 0, none⟩)] w fun e w' => ∃ d, e = .returned (.tuple #[d, .int .i64 (l.imgE s)]) ∧ Pw w0 w' db nd s b l ∧ Kept (fun _ => False) w w' ∧ (l.imgE s = 0 → DkAt w' d l.n (l.imgK s l.n)) ∧ (l.imgE s ≠ 0 → d = .pointer none) := by
  obtain ⟨F, X, hp, hb⟩ := h.pd
  refine (poolimage_at w db nd s b l F X hp hn hl).mono ?_
  rintro e w' ⟨d, rfl, hk, h1, h2⟩
  exact ⟨d, rfl, h.same hk, hk, h1, h2⟩
theorem Pw.crash (h : Pw w0 w db nd s b l) : Calls Try.prog 24 #[.pointer (some ⟨db, 0, none⟩), .slice none 0 0] w fun e w' => e = .returned (.tuple #[]) ∧ Pw w0 w' db nd (s.crashed []) b l ∧ KeptT w w' := by
  obtain ⟨F, X, hp, hb⟩ := h.pd
  refine (D.crash_at w db nd s F hp.dev _ [] (D.keepIs_nil w F)).mono ?_
  rintro e w' ⟨rfl, hs⟩
  exact ⟨rfl, h.step hp hb (hp.ofD hs)⟩
theorem Pw.dimage (h : Pw w0 w db nd s b l) : Calls Try.prog 26 #[.pointer (some ⟨db, 0, none⟩)] w fun e w' => ∃ g, e = .returned (.slice (some ⟨g, 0, none⟩) (nd * 64) (nd * 64)) ∧ Blk w' g s.st 5 ∧ Pw w0 w' db nd s b l ∧ Kept (fun _ => False) w w' := by
  obtain ⟨F, X, hp, hb⟩ := h.pd
  refine (D.image_at w db nd s F hp.dev).mono ?_
  rintro e w' ⟨rfl, hbk, hk⟩
  exact ⟨_, rfl, hbk, h.same hk, hk⟩
end
/-- A device and a pool over it are made. -/
theorem dnew_at (w : World) (nd : Nat) (h1 : 1 ≤ nd) (h2 : nd ≤ 4096) : Calls Try.prog 7 #[.int .i64 nd] w fun e w' => ∃ db F, e = .returned (.tuple #[.pointer (some ⟨db, 0, none⟩), .int .i64 0]) ∧ Kept (fun _ => False) w w' ∧ D.DevAt w' db nd (D.DS.new nd) F ∧ ∀ k, F k → w.heap.size ≤ k := by
  refine (D.new_at w nd h1 h2).mono ?_
  rintro e w' ⟨rfl, hk, hd⟩
  refine ⟨_, _, rfl, hk, hd, ?_⟩
  rintro k (rfl | rfl) <;> omega
theorem pnew_at (w0 w : World) (db nd : Nat) (F : NSet) (hk0 : Kept (fun _ => False) w0 w) (hd : D.DevAt w db nd (D.DS.new nd) F) (hF : ∀ k, F k → w0.heap.size ≤ k) (fr n : Nat) (hn : 1 ≤ n ∧ n ≤ 64) (hf : fr + n ≤ nd) :
    Calls Try.prog 8 #[.pointer (some ⟨db, 0, none⟩), .int .i64 fr, .int .i64 n] w fun e w' => ∃ b, e = .returned (.tuple #[.pointer (some ⟨b, 0, none⟩), .int .i64 0]) ∧ Pw w0 w' db nd (D.DS.new nd) b ⟨fr, n, [], []⟩ ∧ Kept (fun _ => False) w w' := by
  refine (poolnew_at w db nd _ F hd fr n hn hf).mono ?_
  rintro e w' ⟨b, rfl, hk, X, hp, hX⟩
  refine ⟨b, rfl, ⟨⟨F, X, ⟨hd.kept hk (fun _ _ h => h), hp, fun k hx hf => ?_, hf⟩, fun k h => ?_⟩, hk0.trans hk (fun _ _ h => h)⟩, hk⟩
  · have := hX k hx
    have := hd.lt k hf
    omega
  · rcases h with h | h
    · exact hF k h
    · exact Nat.le_trans hk0.size (hX k h)
end Go.Proofs.Ytnlcmgdeohbmoaa
