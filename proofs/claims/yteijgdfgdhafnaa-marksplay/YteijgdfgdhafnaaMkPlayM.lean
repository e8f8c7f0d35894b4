/-
  What MarksPlay keeps from round to round.
-/
import Derived.Test.YteijgdfgdhafnaaMkFirst
namespace Go.Proofs.Yteijgdfgdhafnaa
open Go.RowKit Go.Shelf
set_option linter.unusedSimpArgs false
set_option linter.unusedVariables false
set_option maxRecDepth 100000

/-- An operation of the law in memory. -/
structure Opv where
  n : Int
  s : Sl
  ws : List Wv
def Opv.ent (x : Opv) : EntB := (x.n, x.s)
def OpsAt (w : World) (v : Value) (l : List Opv) : Prop := SrcEB w v (l.map Opv.ent) ∧ (∀ x ∈ l, BsAt w x.s.v x.ws) ∧ l.length ≤ 9223372036854775807
theorem OpsAt.kept {w w' : World} {v : Value} {l : List Opv} (h : OpsAt w v l) (hk : Kept (fun _ => False) w w') : OpsAt w' v l := by
  obtain ⟨⟨ao, cap, h1, h2, h3⟩, h4, h5⟩ := h
  refine ⟨⟨ao, cap, h1, h2, fun h0 => ?_⟩, fun x hx => (h4 x hx).kept hk, h5⟩
  obtain ⟨g, off, e, hc⟩ := h3 h0
  exact ⟨g, off, e, hk.cells hc (fun h => h)⟩
theorem OpsAt.slice {w : World} {v : Value} {l : List Opv} (h : OpsAt w v l) : ∃ ao cap, v = .slice ao l.length cap := by
  obtain ⟨⟨ao, cap, h1, _⟩, _⟩ := h
  exact ⟨ao, cap, by rw [h1, List.length_map]⟩
theorem OpsAt.get {w : World} {ao : Option Addr} {n c : Nat} {l : List Opv} (h : OpsAt w (.slice ao n c) l) {k : Nat} (hk : k < l.length) :
    ∃ g off, ao = some ⟨g, off, none⟩ ∧ w.cell? ⟨g, off + k * 2, none⟩ = some (.int .i64 l[k].n) ∧ w.cell? ⟨g, off + k * 2 + 1, none⟩ = some (.slice l[k].s.a l[k].s.n l[k].s.c) ∧ BsAt w l[k].s.v l[k].ws ∧ l[k].s.n = l[k].ws.length := by
  obtain ⟨⟨ao', cap, h1, h2, h3⟩, h4, h5⟩ := h
  cases h1
  obtain ⟨g, off, rfl, hc⟩ := h3 (by rw [List.length_map]; omega)
  have hk' : k < (l.map Opv.ent).length := by rw [List.length_map]; exact hk
  have hs := h4 l[k] (List.getElem_mem hk)
  have hn : l[k].s.n = l[k].ws.length := by
    obtain ⟨bo, c, e⟩ := hs.slice
    simp only [Sl.v, Value.slice.injEq] at e
    exact e.2.1
  have a := hc _ _ (encE_key (ek := ekB) (ev := evB) (l.map Opv.ent) k hk')
  have b := hc _ _ (encE_val (ek := ekB) (ev := evB) (l.map Opv.ent) k hk')
  rw [List.getElem_map] at a b
  exact ⟨g, off, rfl, a, b, hs, hn⟩
/-- The greatest of the first so many, from 0 on. -/
def mst (L : List Int) (q : Int) : Int := (L.take q.toNat).foldl max 0
theorem mst_nn (L : List Int) (q : Int) : 0 ≤ mst L q := by
  have h : ∀ (l : List Int) (a : Int), a ≤ l.foldl max a := by
    intro l
    induction l with
    | nil => intro a; exact Int.le_refl _
    | cons x l ih => intro a; have := ih (max a x); rw [List.foldl_cons]; omega
  exact h _ 0
theorem mst_step {L : List Int} {q : Int} (h : -1 ≤ q) : mst L (q + 1) = max (mst L q) (mkAt L q) := by
  by_cases h0 : 0 ≤ q
  · obtain ⟨m, rfl⟩ : ∃ m : Nat, q = m := ⟨q.toNat, by omega⟩
    by_cases h1 : m < L.length
    · have he : mkAt L (m : Int) = L[m] := by
        unfold mkAt
        rw [if_pos (show mkIn L.length (m : Int) = true from decide_eq_true (by omega))]
        simp [h1]
      rw [he]
      unfold mst
      rw [show ((m : Int) + 1).toNat = m + 1 by omega, Int.toNat_natCast, List.take_succ_eq_append_getElem h1, List.foldl_append]
      rfl
    · have he : mkAt L (m : Int) = -1 := by
        unfold mkAt
        rw [show mkIn L.length (m : Int) = false from decide_eq_false (by omega)]
        rfl
      rw [he]
      have hn := mst_nn L m
      have e : mst L ((m : Int) + 1) = mst L m := by
        unfold mst
        rw [show ((m : Int) + 1).toNat = m + 1 by omega, Int.toNat_natCast, List.take_of_length_le (by omega), List.take_of_length_le (by omega)]
      rw [e]
      omega
  · obtain rfl : q = -1 := by omega
    have he : mkAt L (-1) = -1 := rfl
    rw [he]
    have hn := mst_nn L (-1)
    have e : mst L (-1 + 1) = mst L (-1) := rfl
    rw [e]
    omega
theorem mst_all {L : List Int} (h1 : 1 ≤ L.length) (h0 : ∀ x ∈ L, 0 ≤ x) {q : Int} (hq : (L.length : Int) ≤ q) : mst L q = mkMost L := by
  unfold mst mkMost
  rw [List.take_of_length_le (by omega)]
  match L, h1 with
  | x :: l, _ =>
    have := h0 x (by simp)
    rw [List.foldl_cons, List.foldl_cons, show max 0 x = x by omega, show max (-1) x = x by omega]
theorem mkNote_nn {L : List Int} {n : Int} {bs : List Int} (h : ∀ x ∈ L, 0 ≤ x) : ∀ x ∈ mkNote L n bs, 0 ≤ x := by
  unfold mkNote
  split
  · rename_i he
    have hn : 0 ≤ n := (of_decide_eq_true (mkErr_ok.1 he).1).1
    have key : ∀ (bs l : List Int), (∀ x ∈ l, 0 ≤ x) → ∀ x ∈ mkSet l n bs, 0 ≤ x := by
      intro bs
      induction bs with
      | nil => intro l h; exact h
      | cons b bs ih =>
        intro l h
        refine ih (l.set b.toNat n) (fun x hx => ?_)
        rcases List.mem_or_eq_of_mem_set hx with hx | rfl
        · exact h x hx
        · exact hn
    exact key bs L h
  · exact h
theorem mkMost_rep {k : Nat} {n : Int} (hk : 1 ≤ k) (hn : 0 ≤ n) : mkMost (List.replicate k n) = n := by
  unfold mkMost
  have : ∀ (k : Nat) (a : Int), (List.replicate k n).foldl max a = if k = 0 then a else max a n := by
    intro k
    induction k with
    | zero => intro a; rfl
    | succ k ih =>
      intro a
      rw [List.replicate_succ, List.foldl_cons, ih]
      by_cases h : k = 0
      · simp [h]
      · simp [h]
  rw [this, if_neg (by omega)]
  omega
theorem mkAt_rep {k : Nat} {n : Int} (hk : 1 ≤ k) : mkAt (List.replicate k n) 0 = n := by
  unfold mkAt
  rw [if_pos (show mkIn (List.replicate k n).length 0 = true from decide_eq_true (by rw [List.length_replicate]; omega))]
  simp
  rw [List.getElem?_replicate, if_pos (by omega)]
  rfl
theorem GathZ.weak {W W1 w : World} {v : Value} {l : List Int} (h : GathZ W1 w v l) (hk : Kept (fun _ => False) W W1) : GathZ W w v l := ⟨h.1, fun b hb => Nat.le_trans hk.size (h.2.1 b hb), hk.trans h.2.2 (fun _ _ h => h)⟩
/-- What stands at the head of a round. -/
structure MSt (W wr : World) (b g b' g' cap' : Nat) (C' : List Value) (nb : Nat) (n : Int) (L : List Int) (xg xc : Nat) : Prop where
  len : L.length = nb
  nn : ∀ x ∈ L, 0 ≤ x
  mm : MkAt wr b g nb [] L
  st : MkAt wr b' g' cap' C' (List.replicate nb n)
  gx : GathZ W wr (.slice (some ⟨xg, 0, none⟩) nb xc) L
  ne : xg ≠ g
  ng : g' ≠ g
  lt : W.heap.size ≤ g
theorem MSt.kept {W wr w : World} {b g b' g' cap' : Nat} {C' : List Value} {nb : Nat} {n : Int} {L : List Int} {xg xc : Nat} (h : MSt W wr b g b' g' cap' C' nb n L xg xc) (hk : Kept (fun _ => False) wr w) : MSt W w b g b' g' cap' C' nb n L xg xc :=
  { h with mm := h.mm.kept hk, st := h.st.kept hk, gx := h.gx.kept hk }
/-- Both have noted. -/
theorem MSt.note {W wr w5 w6 : World} {b g b' g' cap' : Nat} {C' : List Value} {nb : Nat} {n : Int} {L : List Int} {xg xc : Nat} (h : MSt W wr b g b' g' cap' C' nb n L xg xc) (hnb : 1 ≤ nb) {p : Int} {bs : List Int} {v' : Value}
    (h1 : mkErr L p bs = 0 → GathZ wr w5 v' (mkNote L p bs)) (h2 : ¬ mkErr L p bs = 0 → v' = .slice (some ⟨xg, 0, none⟩) nb xc ∧ mkNote L p bs = L) (hk5 : Kept (fun _ => False) wr w5)
    (h6 : MkAt w6 b g nb [] (mkNote L p bs)) (hk6 : Kept (fun k => k = g) w5 w6) :
    ∃ xg' xc', v' = .slice (some ⟨xg', 0, none⟩) nb xc' ∧ MSt W w6 b g b' g' cap' C' nb n (mkNote L p bs) xg' xc' := by
  have hlen : (mkNote L p bs).length = nb := by rw [mkNote_length]; exact h.len
  have hK : Kept (fun _ => False) W w6 := (h.gx.2.2.trans hk5 (fun _ _ h => h)).trans hk6 (fun i hi e => by have := h.lt; omega)
  have hst : MkAt w6 b' g' cap' C' (List.replicate nb n) := (h.st.kept hk5).keptX hk6 (fun e => (h.st.1.ne h.mm.2.1 (by decide)) e) (fun e => h.ng e)
  by_cases he : mkErr L p bs = 0
  · have hg := h1 he
    rcases ownsRow_blk hg.1 with ⟨_, h0, _⟩ | ⟨xg', xc', C2, rfl, hb, hnc, hcm, hC⟩
    · rw [hlen] at h0; omega
    · have hx : wr.heap.size ≤ xg' := hg.2.1 xg' rfl
      have hgl : g < wr.heap.size := h.mm.2.1.lt
      have hne : xg' ≠ g := by omega
      refine ⟨xg', xc', by rw [hlen], { len := hlen, nn := mkNote_nn h.nn, mm := h6, st := hst, gx := ?_, ne := hne, ng := h.ng, lt := h.lt }⟩
      rw [← hlen]
      refine ⟨ownsRow_kept hg.1 hk6 (fun k hk e => ?_), fun k hk => ?_, hK⟩
      · cases hk; exact hne e
      · have e : xg' = k := by simpa [Value.ownBlock] using hk
        have := h.gx.2.2.size
        omega
  · obtain ⟨rfl, e⟩ := h2 he
    rw [e] at h6 ⊢
    refine ⟨xg, xc, rfl, { len := h.len, nn := h.nn, mm := h6, st := hst, gx := ⟨ownsRow_kept (h.gx.kept hk5).1 hk6 (fun k hk e => ?_), h.gx.2.1, hK⟩, ne := h.ne, ng := h.ng, lt := h.lt }⟩
    cases hk
    exact h.ne e
end Go.Proofs.Yteijgdfgdhafnaa
