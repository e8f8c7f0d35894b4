/-
  The pool and the document's own, side by side, without memory.
-/
import Derived.Test.YtnlcmgdeohbmoaaPrSave
import Derived.Test.YtnlcmgdeohbmoaaJ18
namespace Go.Proofs.Ytnlcmgdeohbmoaa
open Go.RowKit Go.Shelf
set_option linter.unusedSimpArgs false
set_option linter.unusedVariables false
set_option maxRecDepth 100000

/-- The entries below k. -/
def dBel (l : List EntP) (k : Int) : List EntP := l.filter fun e => decide (e.1 < k)
theorem dBel_none {l : List EntP} {k : Int} (h : ∀ e ∈ l, k ≤ e.1) : dBel l k = [] := by
  unfold dBel
  rw [List.filter_eq_nil_iff]
  intro e he
  have := h e he
  simpa using this
theorem dBel_all {l : List EntP} {k : Int} (h : ∀ e ∈ l, e.1 < k) : dBel l k = l := by
  unfold dBel
  rw [List.filter_eq_self]
  intro e he
  simpa using h e he
theorem dBel_cons (e : EntP) (l : List EntP) (k : Int) : dBel (e :: l) k = if e.1 < k then e :: dBel l k else dBel l k := by
  unfold dBel
  rw [List.filter_cons]
  by_cases h : e.1 < k
  · simp [h]
  · simp [h]
theorem dBel_no : ∀ {l : List EntP} {k : Int}, (∀ x, (k, x) ∉ l) → dBel l (k + 1) = dBel l k
  | [], k, _ => rfl
  | e :: l, k, h => by
    have hne : e.1 ≠ k := fun he => h e.2 (by rw [← he]; exact List.mem_cons_self)
    have ih := dBel_no (l := l) (k := k) (fun x hx => h x (List.mem_cons_of_mem _ hx))
    rw [dBel_cons, dBel_cons, ih]
    by_cases hk : e.1 < k
    · rw [if_pos hk, if_pos (by omega)]
    · rw [if_neg hk, if_neg (by omega)]
theorem dBel_has : ∀ {l : List EntP} {k : Int} {x : Bk}, Sorted ltI l → (k, x) ∈ l → dBel l (k + 1) = dBel l k ++ [(k, x)] ∧ l[(dBel l k).length]? = some (k, x)
  | [], k, x, _, h => by simp at h
  | e :: l, k, x, hs, h => by
    have hs2 := (List.pairwise_cons.1 hs).2
    have hlt : ∀ y ∈ l, e.1 < y.1 := fun y hy => by
      have := (List.pairwise_cons.1 hs).1 y hy
      simpa [ltI] using this
    rcases List.mem_cons.1 h with rfl | hm
    · have h1 : dBel l k = [] := dBel_none (fun y hy => by have := hlt y hy; simp only at this; omega)
      have h2 : dBel l (k + 1) = [] := dBel_none (fun y hy => by have := hlt y hy; simp only at this; omega)
      have h3 : dBel ((k, x) :: l) k = [] := by rw [dBel_cons, if_neg (by simp), h1]
      refine ⟨?_, ?_⟩
      · rw [h3, dBel_cons, if_pos (by simp only; omega), h2]
        rfl
      · rw [h3]
        rfl
    · have hek := hlt _ hm
      simp only at hek
      obtain ⟨i1, i2⟩ := dBel_has hs2 hm
      rw [dBel_cons, dBel_cons, if_pos hek, if_pos (by omega), i1]
      exact ⟨rfl, by simpa using i2⟩
/-- The pool and the document's. -/
structure PrRel (l : PL) (H : List (List Nat)) (T : List Bool) : Prop where
  hl : H.length = l.n
  tl : T.length = l.n
  sh : Sorted ltI l.hand
  sd : Sorted ltI l.dirty
  kd : ∀ e ∈ l.dirty, 0 ≤ e.1 ∧ e.1 < l.n
  sub : ∀ k x, getP l.dirty k = some x → getP l.hand k = some x
  hv : ∀ k : Nat, k < l.n → H.getD k [] = match getP l.hand k with | some x => x.B | none => []
  tv : ∀ k : Nat, k < l.n → (T.getD k false = true ↔ ∃ x, getP l.dirty k = some x)
theorem getD_set {α : Type} {L : List α} {i k : Nat} {a d : α} (hi : i < L.length) : (L.set i a).getD k d = if k = i then a else L.getD k d := by
  by_cases h : k = i
  · subst h
    simp [hi]
  · rw [if_neg h, List.getD_eq_getElem?_getD, List.getD_eq_getElem?_getD, List.getElem?_set_ne (fun e => h e.symm)]
theorem bk_ne (x : Bk) : x.B ≠ [] := fun h => by have := x.len; rw [h] at this; cases this
section
variable {l : PL} {H : List (List Nat)} {T : List Bool} {s : D.DS} {nd : Nat}
theorem PrRel.new (fr n : Nat) : PrRel ⟨fr, n, [], []⟩ (noH n) (noT n) := by
  refine ⟨by simp [noH], by simp [noT], List.Pairwise.nil, List.Pairwise.nil, by simp, fun k x h => by simp [getP, hasK] at h, fun k hk => ?_, fun k hk => ?_⟩
  · simp only at hk
    simp [noH, getP, hasK, hk]
  · simp only at hk
    simp [noT, getP, hasK, hk]
theorem PrRel.put1 (h : PrRel l H T) {m : Nat} (hm : m < l.n) {B : List Nat} (hB : B.length = 64) (hB2 : ∀ x ∈ B, x < 256) : PrRel { l with hand := putK ltI l.hand m (mkBk B), dirty := putK ltI l.dirty m (mkBk B) } (H.set m B) (T.set m true) := by
  refine ⟨by rw [List.length_set]; exact h.hl, by rw [List.length_set]; exact h.tl, h.sh.put strictI _ _, h.sd.put strictI _ _, fun e he => ?_, fun j y hy => ?_, fun j hj => ?_, fun j hj => ?_⟩
  · rcases mem_putK he with rfl | he
    · simp only; omega
    · exact h.kd e he
  · rw [getP_put h.sd] at hy
    rw [getP_put h.sh]
    split at hy
    · rename_i e; rw [if_pos e]; exact hy
    · rename_i e; rw [if_neg e]; exact h.sub j y hy
  · simp only at hj ⊢
    rw [getD_set (by rw [h.hl]; exact hm), getP_put h.sh]
    by_cases e : j = m
    · subst e
      rw [if_pos rfl, if_pos rfl]
      exact (mkBk_B hB hB2).symm
    · rw [if_neg e, if_neg (by omega)]
      exact h.hv j hj
  · simp only at hj ⊢
    rw [getD_set (by rw [h.tl]; exact hm), getP_put h.sd]
    by_cases e : j = m
    · subst e
      simp
    · rw [if_neg e, if_neg (by omega)]
      exact h.tv j hj
theorem PrRel.puts : ∀ (ws : List Wr) {l : PL} {H : List (List Nat)} {T : List Bool}, PrRel l H T → withE l.n ws = 0 → (∀ x ∈ ws, ∀ y ∈ x.B, y < 256) → PrRel (l.puts ws) (putsH H ws) (putsT T ws)
  | [], l, H, T, h, _, _ => h
  | w :: ws, l, H, T, h, hw, hb => by
    obtain ⟨m, h1, h2, h3, h4⟩ := withE_cons hw
    have := h.put1 h2 h3 (hb w List.mem_cons_self)
    have h5 := PrRel.puts ws this h4 (fun x hx => hb x (List.mem_cons_of_mem _ hx))
    have e1 : putsH H (w :: ws) = putsH (H.set w.blk.toNat w.B) ws := rfl
    have e2 : putsT T (w :: ws) = putsT (T.set w.blk.toNat true) ws := rfl
    have e3 : l.puts (w :: ws) = PL.puts { l with hand := putK ltI l.hand w.blk (mkBk w.B), dirty := putK ltI l.dirty w.blk (mkBk w.B) } ws := rfl
    rw [e1, e2, e3, h1, Int.toNat_natCast]
    exact h5
theorem PrRel.putE (h : PrRel l H T) (ws : List Wr) (hb : ∀ x ∈ ws, ∀ y ∈ x.B, y < 256) : PrRel (l.putE ws) (putHE l.n H ws) (putTE l.n T ws) := by
  unfold PL.putE putHE putTE
  by_cases hw : withE l.n ws = 0
  · rw [if_pos hw, if_pos hw, if_pos hw]; exact PrRel.puts ws h hw hb
  · rw [if_neg hw, if_neg hw, if_neg hw]; exact h
theorem PrRel.getE (h : PrRel l H T) (k : Int) : rgE s H k = if 0 ≤ k ∧ k < l.n then l.getE s k.toNat else 41 := by
  unfold rgE PL.getE
  rw [h.hl]
  by_cases hk : 0 ≤ k ∧ k < l.n
  · rw [if_pos hk, if_pos hk, h.hv k.toNat (by omega)]
    cases hg : getP l.hand (k.toNat : Int) with
    | some x => simp only [if_neg (bk_ne x)]
    | none => rfl
  · rw [if_neg hk, if_neg hk]
theorem PrRel.getV (h : PrRel l H T) (k : Int) : rgV s l.fr H k = if 0 ≤ k ∧ k < l.n then l.getV s k.toNat else [] := by
  unfold rgV PL.getV
  rw [h.hl]
  by_cases hk : 0 ≤ k ∧ k < l.n
  · rw [if_pos hk, if_pos hk, h.hv k.toNat (by omega)]
    cases hg : getP l.hand (k.toNat : Int) with
    | some x => simp only [if_neg (bk_ne x)]
    | none => rfl
  · rw [if_neg hk, if_neg hk]
theorem PrRel.h64 (h : PrRel l H T) : H64 H := by
  intro B hB
  obtain ⟨i, hi, rfl⟩ := List.getElem_of_mem hB
  have := h.hv i (by rw [← h.hl]; exact hi)
  have e : H.getD i [] = H[i] := by simp [hi]
  rw [← e, this]
  cases getP l.hand (i : Int) with
  | some x => simp only [x.len]; omega
  | none => simp
theorem PrRel.whole (h : PrRel l H T) : Whole H T := by
  intro k hk
  have hlt : k < l.n := by
    rw [← h.tl]
    apply Nat.lt_of_not_le
    intro hle
    rw [List.getD_eq_getElem?_getD, List.getElem?_eq_none hle] at hk
    cases hk
  obtain ⟨x, hx⟩ := (h.tv k hlt).1 hk
  rw [h.hv k hlt, h.sub _ _ hx]
  exact ⟨x.len, x.lt⟩
theorem PrRel.all (h : PrRel l H T) : rAll s H l.n = decide (l.imgE s = 0) := by
  have key : rAll s H l.n = (List.range l.n).all (fun m => decide (l.getE s m = 0)) := by
    unfold rAll
    rw [Bool.eq_iff_iff, List.all_eq_true, List.all_eq_true]
    constructor
    · intro hh m hm
      have := hh m hm
      have h2 := List.mem_range.1 hm
      rw [h.getE, if_pos (by omega), Int.toNat_natCast] at this
      exact this
    · intro hh m hm
      have := hh m hm
      have h2 := List.mem_range.1 hm
      rw [h.getE, if_pos (by omega), Int.toNat_natCast]
      exact this
  rw [key]
  unfold PL.imgE
  split
  · rename_i e; rw [e]; rfl
  · rename_i e
    rw [Bool.not_eq_true] at e
    rw [e]; rfl
theorem PrRel.img (h : PrRel l H T) : rImg s l.fr H l.n = l.imgK s l.n := by
  unfold rImg PL.imgK
  have : ∀ (L : List Nat), (∀ m ∈ L, m < l.n) → (L.flatMap fun j : Nat => rgV s l.fr H j) = L.flatMap fun m => l.getV s m := by
    intro L
    induction L with
    | nil => intro _; rfl
    | cons m L ih =>
      intro hL
      have h2 := hL m List.mem_cons_self
      rw [List.flatMap_cons, List.flatMap_cons, ih (fun x hx => hL x (List.mem_cons_of_mem _ hx)), h.getV, if_pos (by omega), Int.toNat_natCast]
  exact this _ (fun m hm => List.mem_range.1 hm)
theorem PrRel.imgE (h : PrRel l H T) : (if rAll s H l.n then (0 : Int) else rE s) = l.imgE s := by
  rw [h.all]
  unfold PL.imgE
  by_cases e : ((List.range l.n).all fun m => decide (l.getE s m = 0)) = true
  · rw [if_pos e]; rfl
  · rw [if_neg e]
    have : ∃ m, m < l.n ∧ l.getE s m ≠ 0 := by
      rw [List.all_eq_true] at e
      apply Classical.byContradiction
      intro hn
      apply e
      intro m hm
      rw [decide_eq_true_eq]
      apply Classical.byContradiction
      intro h2
      exact hn ⟨m, List.mem_range.1 hm, h2⟩
    obtain ⟨m, hm, h2⟩ := this
    unfold PL.getE at h2
    split at h2
    · exact absurd rfl h2
    · unfold rE
      split at h2
      · rename_i ho; rw [if_pos ho]; rfl
      · exact absurd rfl h2
/-- What Save's loop has done is what the pool's has. -/
theorem PrRel.sv (h : PrRel l H T) : ∀ k, k ≤ l.n → svN l.fr H T s k = runW l.fr (dBel l.dirty k) s
  | 0, _ => by
    rw [show ((0 : Nat) : Int) = 0 from rfl, dBel_none (fun e he => (h.kd e he).1)]
    rfl
  | k + 1, hk => by
    have ih := PrRel.sv h k (by omega)
    show svStep l.fr H T k (svN l.fr H T s k) = _
    unfold svStep
    by_cases hT : T.getD k false = true
    · obtain ⟨x, hx⟩ := (h.tv k (by omega)).1 hT
      have hm := (getP_mem h.sd).1 hx
      obtain ⟨e1, _⟩ := dBel_has h.sd hm
      have e2 : ((k + 1 : Nat) : Int) = (k : Int) + 1 := by omega
      have hH : H.getD k [] = x.B := by rw [h.hv k (by omega), h.sub _ _ hx]
      rw [e2, e1, runW_append, ← ih, runW_one, hH]
      by_cases h0 : (svN l.fr H T s k).2 = 0
      · rw [if_pos ⟨hT, h0⟩, if_pos h0]
        simp only [Int.toNat_natCast]
      · rw [if_neg (fun hh => h0 hh.2), if_neg h0]
    · have e2 : ((k + 1 : Nat) : Int) = (k : Int) + 1 := by omega
      rw [if_neg (fun hh => hT hh.1), ih, e2, dBel_no (fun x hx => hT ((h.tv k (by omega)).2 ⟨x, (getP_mem h.sd).2 hx⟩))]
theorem PrRel.svAll (h : PrRel l H T) : svN l.fr H T s l.n = runW l.fr l.dirty s := by
  rw [h.sv l.n (Nat.le_refl _), dBel_all (fun e he => (h.kd e he).2)]
theorem PrRel.saveD (h : PrRel l H T) : svD l.fr l.n H T s = l.saveD s := by
  unfold svD PL.saveD
  rw [h.svAll]
theorem PrRel.saveE (h : PrRel l H T) : svE l.fr l.n H T s = l.saveE s := by
  unfold svE PL.saveE
  rw [h.svAll]
theorem PrRel.save (h : PrRel l H T) : PrRel (l.saveP s) H (svT l.fr l.n H T s) := by
  unfold PL.saveP svT
  rw [h.saveE]
  by_cases e : l.saveE s = 0
  · rw [if_pos e, if_pos e]
    refine ⟨h.hl, by simp [noT], h.sh, List.Pairwise.nil, by simp, fun k x hx => by simp [getP, hasK] at hx, h.hv, fun k hk => ?_⟩
    simp only at hk
    simp [noT, getP, hasK, hk]
  · rw [if_neg e, if_neg e]
    exact h
theorem PrRel.cnt (h : PrRel l H T) {k : Nat} (hk : k < l.n) (hT : T.getD k false = true) : (dBel l.dirty (k + 1 : Nat)).length = (dBel l.dirty k).length + 1 ∧ ∃ x, l.dirty[(dBel l.dirty k).length]? = some ((k : Int), x) := by
  obtain ⟨x, hx⟩ := (h.tv k hk).1 hT
  obtain ⟨e1, e2⟩ := dBel_has h.sd ((getP_mem h.sd).1 hx)
  have e3 : ((k + 1 : Nat) : Int) = (k : Int) + 1 := by omega
  rw [e3, e1]
  exact ⟨by simp, x, e2⟩
theorem PrRel.cntN (h : PrRel l H T) {k : Nat} (hk : k < l.n) (hT : T.getD k false = false) : dBel l.dirty (k + 1 : Nat) = dBel l.dirty k := by
  have e3 : ((k + 1 : Nat) : Int) = (k : Int) + 1 := by omega
  rw [e3]
  refine dBel_no (fun x hx => ?_)
  have := (h.tv k hk).2 ⟨x, (getP_mem h.sd).2 hx⟩
  rw [hT] at this
  cases this
theorem PrRel.cntA (h : PrRel l H T) : dBel l.dirty l.n = l.dirty := dBel_all (fun e he => (h.kd e he).2)
end
end Go.Proofs.Ytnlcmgdeohbmoaa

/-
  Single writes in a list of their own; operations under a guard.
-/
namespace Go.Proofs.Ytnlcmgdeohbmoaa
open Go.RowKit Go.Shelf
set_option linter.unusedSimpArgs false
set_option linter.unusedVariables false
set_option maxRecDepth 100000

section
variable {P : Program} {ops : Array Oper} {Q : Exit → Act → World → Prop} {a : Act} {w w' : World} {rest : List Oper} {o : Oper} {v : Value} {dst : Option Tmp} {ty : TypeId} {pos : String} {aft : Array Edge} {gd : Option (Nat × Bool)} {x y : Operand}
theorem wpList_runG (hg : Region.wanted o (yielded ops a.tmps) = true) (hr : (execOp a.eval o).run P w = .ok (.value v) w') (h : wpList P ops Q rest (a.put o.dst v) w') : wpList P ops Q (o :: rest) a w :=
  wpList_step fun K hK => by rw [if_pos hg]; unfold Oper.wp; rw [hr]; exact hK _ _ h
theorem stop_convertG (t u : TypeId) (h : Hid (wpList P ops Q (⟨dst, .convert t u x, ty, pos, aft, gd⟩ :: rest) a w)) : wpList P ops Q (⟨dst, .convert t u x, ty, pos, aft, gd⟩ :: rest) a w := h.out
/-- One write, in a list of its own. -/
theorem aw_ws1 {ty2 : TypeId} {pos2 : String} {aft2 : Array Edge} {d1 d2 : Nat} (p : Int) (s : Sl) (B : List Nat) (hs : Src w s.v B) (hx : a.eval x = .int .i64 p) (hy : a.eval y = .slice s.a s.n s.c) (hd : (a.put (some d1) (.agg #[.int .i64 p, .slice s.a s.n s.c])).eval (.tmp d1) = .agg #[.int .i64 p, .slice s.a s.n s.c])
    (h : ∀ w' sw, sw = .slice (some ⟨w.heap.size, 0, none⟩) 1 1 → WsAt w' sw [⟨p, s, B⟩] → Kept (fun _ => False) w w' → wpList Try.prog ops Q rest ((a.put (some d1) (.agg #[.int .i64 p, .slice s.a s.n s.c])).put (some d2) (.slice (some ⟨w.heap.size, 0, none⟩) 1 1)) w') :
    wpList Try.prog ops Q (⟨some d1, .build 68 #[(0, x), (1, y)], ty, pos, aft, none⟩ :: ⟨some d2, .buildSlice 51 1 #[(0, .tmp d1)], ty2, pos2, aft2, none⟩ :: rest) a w := by
  obtain ⟨i0, hi0, hz0, hs0, hb0⟩ := info_parts Try.info68
  refine wpList_run rfl (run_build_two (o1 := 0) (s1 := 1) (o2 := 1) (s2 := 1) (M1 := [.int .i64 p]) (M2 := [.slice s.a s.n s.c]) hi0 hz0 Try.underlying68 (by kernel_rfl) hx hy rfl rfl rfl rfl (by simp [Value.cells]) (by simp [Value.cells])) ?_
  have e : (put (put (Value.cells (.agg #[.int .i64 0, .slice none 0 0])).toList 0 [.int .i64 p]) 1 [.slice s.a s.n s.c]).toArray = #[.int .i64 p, .slice s.a s.n s.c] := by simp [put, Value.cells]
  rw [e]
  refine wpList_run rfl (run_buildSlice_one (M := [.int .i64 p, .slice s.a s.n s.c]) Try.underlying51 hi0 hz0 hs0 (by simp) (by simp) (.inl hd)) ?_
  have hb := Blk.new w [.int .i64 p, .slice s.a s.n s.c] 68
  have hk : Kept (fun _ => False) w (w.alloc (.cells [.int .i64 p, .slice s.a s.n s.c].toArray 68)) := Kept.alloc _ _ _
  refine h _ _ rfl ⟨⟨_, 1, rfl, Nat.le_refl _, fun _ => ⟨_, 0, rfl, ?_⟩⟩, ?_, by simp⟩ hk
  · have := hb.cells 0 2
    simpa [encE, Wv.ent] using this
  · intro x hx
    simp at hx
    subst hx
    exact hs.kept hk
end
theorem run_slice_hi {P : Program} {ρ : Operand → Value} {w : World} {dst : Option Tmp} {t ty elem : TypeId} {x hi : Operand} {pos : String} {aft : Array Edge} {gd : Option (Nat × Bool)} {i : TypeInfo} {b off len cap : Nat} {k : IntKind}
    (ht : P.underlying t = some (.slice elem)) (hi' : P.info? elem = some i) (hx : ρ x = .slice (some ⟨b, off, none⟩) len cap) (h : Nat) (hh : ρ hi = .int k h) (hl : h ≤ cap) (h0 : 0 < cap) :
    (execOp ρ ⟨dst, .slice t x none (some hi) none, ty, pos, aft, gd⟩).run P w = .ok (.value (.slice (some ⟨b, off, none⟩) h cap)) w := by
  have h2 : (0 : Int) ≤ (h : Int) ∧ (h : Int) ≤ (cap : Int) := by omega
  have h3 : ¬ cap = 0 := by omega
  simp [execOp, Instr.sliceAt, run_underlying ht, Instr.slice, hx, hh, Instr.sliceBounds, Instr.sliceBound, asIntOf, h2, hl, sizeOf, typeInfo, hi', h3, addr_add]

end Go.Proofs.Ytnlcmgdeohbmoaa
