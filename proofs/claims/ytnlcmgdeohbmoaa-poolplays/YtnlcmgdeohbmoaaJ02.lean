/-
  A region that draws its order: its reads first, then the others one by one, each leaving what was there as it was. Stops for walking by hand. Nothing of a program's dump is used here.
-/
import Derived.Test.YtnlcmgdeohbmoaaJ01
namespace Go.Proofs.Ytnlcmgdeohbmoaa
open Go.RowKit
set_option linter.unusedSimpArgs false
set_option linter.unusedVariables false
set_option maxRecDepth 100000

section
variable {P : Program} {md : Region.Mode} {ops : Array Oper} {Q : Exit → Act → World → Prop} {S S' : World → Prop} {fuel : Nat} {listed : Array Bool} {a : Act} {w w' : World}

theorem wanted_none {o : Oper} (hg : o.guard = none) : Region.wanted o (yielded ops a.tmps) = true := by simp [Region.wanted, hg]

theorem wanted_some {o oj : Oper} {j d : Nat} {bb : Bool} (hg : o.guard = some (j, bb)) (hj : ops[j]? = some oj) (hd : oj.dst = some d) (hb : a.eval (.tmp d) = .bool bb) (hs : d < a.tmps.size) : Region.wanted o (yielded ops a.tmps) = true := by
  have hb' : a.tmps[d]? = some (.bool bb) := by
    simp only [Act.eval, Array.getD_eq_getD_getElem?] at hb
    rw [Array.getElem?_eq_getElem hs] at hb ⊢
    simpa using hb
  simp [Region.wanted, hg, yielded, hj, hd, hb']

theorem wanted_not {o oj : Oper} {j d : Nat} {bb : Bool} (hg : o.guard = some (j, bb)) (hj : ops[j]? = some oj) (hd : oj.dst = some d) (hb : a.eval (.tmp d) = .bool (!bb)) (hs : d < a.tmps.size) : Region.wanted o (yielded ops a.tmps) = false := by
  have hb' : a.tmps[d]? = some (.bool (!bb)) := by
    simp only [Act.eval, Array.getD_eq_getD_getElem?] at hb
    rw [Array.getElem?_eq_getElem hs] at hb ⊢
    simpa using hb
  cases bb <;> simp [Region.wanted, hg, yielded, hj, hd, hb']

/-- The condition may be made stronger on the way. -/
theorem wpAnyH_mono (hS : ∀ w, S' w → S w) : ∀ (fuel : Nat) (listed : Array Bool) (a : Act) (w : World), wpAnyH P md ops Q S' fuel listed a w → wpAnyH P md ops Q S fuel listed a w
  | 0, _, _, _, h => h
  | fuel + 1, _, _, _, h => ⟨h.1, fun i hi => wpOp_mono (fun a' w' h' => ⟨hS _ h'.1, wpAnyH_mono hS fuel _ a' w' h'.2⟩) (h.2 i hi)⟩

/-- From here on what is there now stays too. -/
theorem raise {w0 : World} (hk : Kept (fun _ => False) w0 w) (h : wpAnyH P md ops Q (Kept (fun _ => False) w) fuel listed a w) : wpAnyH P md ops Q (Kept (fun _ => False) w0) fuel listed a w :=
  wpAnyH_mono (fun U hU => hk.trans hU (fun _ _ h => h)) _ _ _ _ h

/-- A read, taken first: what was there at w0 stays as it is. -/
theorem tkK {w0 : World} (i t : Nat) {oi : Oper} {v : Value} (hk : Kept (fun _ => False) w0 w) (hi : ops[i]? = some oi) (hd : oi.dst = some t) (hs : Region.noSelect ops = true) (hf : Region.free md ops listed i = true) (hr : (Region.ready md ops listed).contains i = true)
    (hw : Region.wanted oi (yielded ops a.tmps) = true) (hQ : ∀ c a w, Q (.panic c) (a.put oi.dst v) w → Q (.panic c) a w) (hrun : ∀ U, Kept (fun _ => False) w0 U → (execOp a.eval oi).run P U = .ok (.value v) U)
    (h : wpAnyH P md ops Q (Kept (fun _ => False) w0) fuel (listed.setIfInBounds i true) (a.put (some t) v) w) : wpAnyH P md ops Q (Kept (fun _ => False) w0) (fuel + 1) listed a w := by
  rw [← hd] at h
  exact wpAnyH_take hi hs hf hr hQ (.inl ⟨hw, hrun⟩) hk h

/-- One that is not wanted. -/
theorem tkN {w0 : World} (i t : Nat) {oi : Oper} (hk : Kept (fun _ => False) w0 w) (hi : ops[i]? = some oi) (hd : oi.dst = some t) (hs : Region.noSelect ops = true) (hf : Region.free md ops listed i = true) (hr : (Region.ready md ops listed).contains i = true)
    (hw : Region.wanted oi (yielded ops a.tmps) = false) (hQ : ∀ c a w, Q (.panic c) (a.put oi.dst undef) w → Q (.panic c) a w)
    (h : wpAnyH P md ops Q (Kept (fun _ => False) w0) fuel (listed.setIfInBounds i true) (a.put (some t) undef) w) : wpAnyH P md ops Q (Kept (fun _ => False) w0) (fuel + 1) listed a w := by
  rw [← hd] at h
  exact wpAnyH_take hi hs hf hr hQ (.inr ⟨hw, rfl⟩) hk h

/-- One of those that may come up: any step of the world that keeps what was. -/
theorem stepV {w0 : World} (i t : Nat) {oi : Oper} {v : Value} (hi : ops[i]? = some oi) (hd : oi.dst = some t) (hw : Region.wanted oi (yielded ops a.tmps) = true) (hrun : (execOp a.eval oi).run P w = .ok (.value v) w') (hk : Kept (fun _ => False) w0 w')
    (h : wpAnyH P md ops Q (Kept (fun _ => False) w0) fuel (listed.setIfInBounds i true) (a.put (some t) v) w') :
    wpOp P ops Q i (fun a' w'' => Kept (fun _ => False) w0 w'' ∧ wpAnyH P md ops Q (Kept (fun _ => False) w0) fuel (listed.setIfInBounds i true) a' w'') a w := by
  unfold wpOp
  simp only [hi, hw, if_true]
  refine .inl ?_
  unfold Oper.wp
  rw [hrun]
  rw [← hd] at h
  exact ⟨hk, h⟩

theorem stepC {w0 : World} (i t : Nat) {oi : Oper} {f : FuncId} {args : Array Value} {R : Ending → World → Prop} (hi : ops[i]? = some oi) (hd : oi.dst = some t) (hw : Region.wanted oi (yielded ops a.tmps) = true) (hrun : (execOp a.eval oi).run P w = .ok (.enter f args) w)
    (hc : Calls P f args w R) (h : ∀ e w', R e w' → ∃ v, e = .returned v ∧ Kept (fun _ => False) w0 w' ∧ wpAnyH P md ops Q (Kept (fun _ => False) w0) fuel (listed.setIfInBounds i true) (a.put (some t) v) w') :
    wpOp P ops Q i (fun a' w'' => Kept (fun _ => False) w0 w'' ∧ wpAnyH P md ops Q (Kept (fun _ => False) w0) fuel (listed.setIfInBounds i true) a' w'') a w := by
  unfold wpOp
  simp only [hi, hw, if_true]
  refine .inl ?_
  unfold Oper.wp
  rw [hrun]
  rw [← hd] at h
  exact hc.mono fun e w' hR => by
    obtain ⟨v, rfl, hk, h2⟩ := h e w' hR
    exact ⟨hk, h2⟩

/-- The only one that may come up. -/
theorem one (i : Nat) (hr : Region.ready md ops listed = [i]) (h : wpOp P ops Q i (fun a' w'' => S w'' ∧ wpAnyH P md ops Q S fuel (listed.setIfInBounds i true) a' w'') a w) : wpAnyH P md ops Q S (fuel + 1) listed a w := by
  refine wpAnyH_all hr (by simp) ?_
  intro j hj
  simp at hj
  subst hj
  exact h
/-- One of two. -/
theorem two (i j : Nat) (hr : Region.ready md ops listed = [i, j]) (h : wpOp P ops Q i (fun a' w'' => S w'' ∧ wpAnyH P md ops Q S fuel (listed.setIfInBounds i true) a' w'') a w)
    (h2 : wpOp P ops Q j (fun a' w'' => S w'' ∧ wpAnyH P md ops Q S fuel (listed.setIfInBounds j true) a' w'') a w) : wpAnyH P md ops Q S (fuel + 1) listed a w := by
  refine wpAnyH_all hr (by simp) ?_
  intro k hk
  simp at hk
  rcases hk with rfl | rfl
  · exact h
  · exact h2

/-- The only one that may come up is a call. (In one law: where the operation is guarded, a goal 'wpOp' is slow to look at.) -/
theorem oneC {w0 : World} (i t : Nat) {oi : Oper} {f : FuncId} {args : Array Value} {R : Ending → World → Prop} (hr : Region.ready md ops listed = [i]) (hi : ops[i]? = some oi) (hd : oi.dst = some t) (hw : Region.wanted oi (yielded ops a.tmps) = true) (hrun : (execOp a.eval oi).run P w = .ok (.enter f args) w)
    (hc : Calls P f args w R) (h : ∀ e w', R e w' → ∃ v, e = .returned v ∧ Kept (fun _ => False) w0 w' ∧ wpAnyH P md ops Q (Kept (fun _ => False) w0) fuel (listed.setIfInBounds i true) (a.put (some t) v) w') :
    wpAnyH P md ops Q (Kept (fun _ => False) w0) (fuel + 1) listed a w :=
  one i hr (stepC i t hi hd hw hrun hc h)
theorem oneV {w0 : World} (j u : Nat) {oj : Oper} {v : Value} (hr : Region.ready md ops listed = [j]) (hj : ops[j]? = some oj) (hjd : oj.dst = some u) (hjw : Region.wanted oj (yielded ops a.tmps) = true) (hjrun : (execOp a.eval oj).run P w = .ok (.value v) w') (hjk : Kept (fun _ => False) w0 w')
    (h2 : wpAnyH P md ops Q (Kept (fun _ => False) w0) fuel (listed.setIfInBounds j true) (a.put (some u) v) w') :
    wpAnyH P md ops Q (Kept (fun _ => False) w0) (fuel + 1) listed a w :=
  one j hr (stepV j u hj hjd hjw hjrun hjk h2)
theorem twoCV {w0 : World} (i t j u : Nat) {oi oj : Oper} {f : FuncId} {args : Array Value} {R : Ending → World → Prop} {v : Value} (hr : Region.ready md ops listed = [i, j])
    (hi : ops[i]? = some oi) (hd : oi.dst = some t) (hw : Region.wanted oi (yielded ops a.tmps) = true) (hrun : (execOp a.eval oi).run P w = .ok (.enter f args) w)
    (hc : Calls P f args w R) (h : ∀ e w', R e w' → ∃ v, e = .returned v ∧ Kept (fun _ => False) w0 w' ∧ wpAnyH P md ops Q (Kept (fun _ => False) w0) fuel (listed.setIfInBounds i true) (a.put (some t) v) w')
    (hj : ops[j]? = some oj) (hjd : oj.dst = some u) (hjw : Region.wanted oj (yielded ops a.tmps) = true) (hjrun : (execOp a.eval oj).run P w = .ok (.value v) w') (hjk : Kept (fun _ => False) w0 w')
    (h2 : wpAnyH P md ops Q (Kept (fun _ => False) w0) fuel (listed.setIfInBounds j true) (a.put (some u) v) w') : wpAnyH P md ops Q (Kept (fun _ => False) w0) (fuel + 1) listed a w :=
  two i j hr (stepC i t hi hd hw hrun hc h) (stepV j u hj hjd hjw hjrun hjk h2)

theorem region_kept {id : Nat} (hm : P.follows .mixedOrders = true)
    (h : ∀ w', Kept (fun _ => False) w w' → w'.heap = w.heap → wpAnyH P .any ops Q (Kept (fun _ => False) w') ops.size (Array.replicate ops.size false) a w') : (Code.region id ops true).wp P Q a w :=
  wp_region_held hm (h _ ⟨rfl, rfl, rfl, Nat.le_refl _, fun _ _ _ => rfl⟩ rfl)
end

section
variable {P : Program} {ops : Array Oper} {Q : Exit → Act → World → Prop} {a : Act} {w : World} {rest : List Oper} {dst : Option Tmp} {ty : TypeId} {pos : String} {aft : Array Edge} {x y : Operand}
theorem stop_make (t : TypeId) (h : Hid (wpList P ops Q (⟨dst, .makeSlice t x y, ty, pos, aft, none⟩ :: rest) a w)) : wpList P ops Q (⟨dst, .makeSlice t x y, ty, pos, aft, none⟩ :: rest) a w := h.out
theorem stop_convert (t u : TypeId) (h : Hid (wpList P ops Q (⟨dst, .convert t u x, ty, pos, aft, none⟩ :: rest) a w)) : wpList P ops Q (⟨dst, .convert t u x, ty, pos, aft, none⟩ :: rest) a w := h.out
theorem stop_append (t : TypeId) (h : Hid (wpList P ops Q (⟨dst, .call { callee := .builtin .append, args := #[x, y], argTypes := #[t, t] }, ty, pos, aft, none⟩ :: rest) a w)) : wpList P ops Q (⟨dst, .call { callee := .builtin .append, args := #[x, y], argTypes := #[t, t] }, ty, pos, aft, none⟩ :: rest) a w := h.out
theorem stop_copy (t : TypeId) (h : Hid (wpList P ops Q (⟨dst, .call { callee := .builtin .copy, args := #[x, y], argTypes := #[t, t] }, ty, pos, aft, none⟩ :: rest) a w)) : wpList P ops Q (⟨dst, .call { callee := .builtin .copy, args := #[x, y], argTypes := #[t, t] }, ty, pos, aft, none⟩ :: rest) a w := h.out
theorem stop_bin {t u : TypeId} (o : BinOp) (h : Hid (wpList P ops Q (⟨dst, .binOp o t x y u, ty, pos, aft, none⟩ :: rest) a w)) : wpList P ops Q (⟨dst, .binOp o t x y u, ty, pos, aft, none⟩ :: rest) a w := h.out
theorem stop_un {t : TypeId} (o : UnOp) (h : Hid (wpList P ops Q (⟨dst, .unOp o t x, ty, pos, aft, none⟩ :: rest) a w)) : wpList P ops Q (⟨dst, .unOp o t x, ty, pos, aft, none⟩ :: rest) a w := h.out
theorem stop_bs (t : TypeId) {n : Nat} {es : Array (Nat × Operand)} (h : Hid (wpList P ops Q (⟨dst, .buildSlice t n es, ty, pos, aft, none⟩ :: rest) a w)) : wpList P ops Q (⟨dst, .buildSlice t n es, ty, pos, aft, none⟩ :: rest) a w := h.out
theorem stop_slice (t : TypeId) {l h m : Option Operand} (hh : Hid (wpList P ops Q (⟨dst, .slice t x l h m, ty, pos, aft, none⟩ :: rest) a w)) : wpList P ops Q (⟨dst, .slice t x l h m, ty, pos, aft, none⟩ :: rest) a w := hh.out
theorem stop_build (t : TypeId) {es : Array (Nat × Operand)} (h : Hid (wpList P ops Q (⟨dst, .build t es, ty, pos, aft, none⟩ :: rest) a w)) : wpList P ops Q (⟨dst, .build t es, ty, pos, aft, none⟩ :: rest) a w := h.out
end

theorem eval_put_ne (a : Act) (d t : Nat) (v : Value) (h : d ≠ t) : (a.put (some d) v).eval (.tmp t) = a.eval (.tmp t) := by
  simp [Act.put, Act.eval, Array.getD_eq_getD_getElem?, Array.getElem?_setIfInBounds, h]
theorem eval_put_eq (a : Act) (d : Nat) (v : Value) (h : d < a.tmps.size) : (a.put (some d) v).eval (.tmp d) = v := by
  simp [Act.put, Act.eval, Array.getD_eq_getD_getElem?, Array.getElem?_setIfInBounds, h]
theorem size_put (a : Act) (d : Option Nat) (v : Value) : (a.put d v).tmps.size = a.tmps.size := by
  cases d <;> simp [Act.put]
theorem put_defers (a : Act) (d : Option Nat) (v : Value) : (a.put d v).defers = a.defers := by cases d <;> rfl
theorem abs1 {p : Act → Prop} {a : Act} (i n : Nat) {v : Value} {ds : List Deferred} (h1 : a.eval (.tmp i) = v) (hs : a.tmps.size = n) (hd : a.defers = ds) (h : ∀ a' : Act, a'.eval (.tmp i) = v → a'.tmps.size = n → a'.defers = ds → p a') : p a := h a h1 hs hd
theorem put_lit (l : List Value) (ds : List Deferred) (t : Nat) (v : Value) : Act.put ⟨l.toArray, ds⟩ (some t) v = ⟨(l.set t v).toArray, ds⟩ := by simp [Act.put]
theorem hold_frame {p : Act → Prop} {a0 : Act} (h : ∀ a, Hid (a = a0) → p a) : p a0 := h a0 (hide rfl)

theorem Cells.set {w : World} {b so : Nat} {M : List Value} (h : Cells w b so M) (j : Nat) (hj : j < M.length) (v : Value) : Cells (w.setCell ⟨b, so + j, none⟩ v) b so (M.set j v) := by
  intro i u hi
  by_cases he : i = j
  · subst he
    rw [List.getElem?_set_self hj] at hi
    cases hi
    have := h i _ (List.getElem?_eq_getElem hj)
    exact World.cell?_setCell_same w _ _ this
  · rw [List.getElem?_set_ne (fun e => he e.symm)] at hi
    have := h i u hi
    rw [World.cell?_setCell_other]
    · exact this
    · intro e
      have := congrArg Addr.off e
      simp at this
      omega

end Go.Proofs.Ytnlcmgdeohbmoaa

/-
  Numbers and texts as bytes: plain functions over lists of numbers. No condition beyond each law's own premises.
-/

namespace Go.Proofs.Ytnlcmgdeohbmoaa
set_option linter.unusedSimpArgs false
set_option linter.unusedVariables false
set_option maxRecDepth 100000

/-- n as w bytes, the greatest first. -/
def numB : Nat → Nat → List Nat
  | _, 0 => []
  | n, w + 1 => numB (n / 256) w ++ [n % 256]
theorem numB_length : ∀ (w n : Nat), (numB n w).length = w
  | 0, _ => rfl
  | w + 1, n => by simp [numB, numB_length w]
theorem numB_lt : ∀ (w n : Nat), ∀ x ∈ numB n w, x < 256
  | 0, _ => by simp [numB]
  | w + 1, n => by
    intro x hx
    simp [numB] at hx
    rcases hx with h | h
    · exact numB_lt w _ x h
    · omega
/-- The number that bytes are. -/
def valN (B : List Nat) : Nat := B.foldl (fun a x => a * 256 + x) 0
theorem valN_snoc (B : List Nat) (x : Nat) : valN (B ++ [x]) = valN B * 256 + x := by simp [valN]
theorem valN_nil : valN [] = 0 := rfl
theorem valN_numB : ∀ (w n : Nat), n < 256 ^ w → valN (numB n w) = n
  | 0, n, h => by simp at h; simp [numB, valN, h]
  | w + 1, n, h => by
    rw [numB, valN_snoc, valN_numB w (n / 256) (by rw [Nat.pow_succ] at h; omega)]
    omega
theorem valN_lt : ∀ (B : List Nat), (∀ x ∈ B, x < 256) → valN B < 256 ^ B.length := by
  intro B
  have h : ∀ (l : List Nat), (∀ x ∈ l.reverse, x < 256) → valN l.reverse < 256 ^ l.length := by
    intro l
    induction l with
    | nil => simp [valN]
    | cons x l ih =>
      intro hx
      rw [List.reverse_cons, valN_snoc, List.length_cons, Nat.pow_succ]
      have h1 := ih (fun y hy => hx y (by rw [List.reverse_cons]; exact List.mem_append_left _ hy))
      have h2 := hx x (by simp)
      generalize 256 ^ l.length = q at *
      omega
  intro hB
  have := h B.reverse (by simpa using hB)
  simpa using this
theorem valN_foldl (B : List Nat) : ∀ a, B.foldl (fun a x => a * 256 + x) a = a * 256 ^ B.length + valN B := by
  induction B with
  | nil => intro a; simp [valN]
  | cons x B ih =>
    intro a
    have h0 := ih (0 * 256 + x)
    have e : valN (x :: B) = B.foldl (fun a x => a * 256 + x) (0 * 256 + x) := rfl
    rw [List.foldl_cons, ih, e, h0, List.length_cons, Nat.pow_succ]
    simp [Nat.add_mul, Nat.mul_assoc, Nat.add_assoc, Nat.mul_comm (256 ^ B.length) 256]
theorem valN_cons (x : Nat) (B : List Nat) : valN (x :: B) = x * 256 ^ B.length + valN B := by
  have := valN_foldl B (0 * 256 + x)
  simpa [valN] using this
theorem numB_inj {a b w : Nat} (ha : a < 256 ^ w) (hb : b < 256 ^ w) (h : numB a w = numB b w) : a = b := by
  have := congrArg valN h
  rwa [valN_numB w a ha, valN_numB w b hb] at this
theorem pow256_le {w : Nat} (h : w ≤ 8) : 256 ^ w ≤ 18446744073709551616 := by
  have := Nat.pow_le_pow_right (n := 256) (by decide) h
  exact Nat.le_trans this (by decide)
theorem pow256_le7 {w : Nat} (h : w ≤ 7) : 256 ^ w ≤ 72057594037927936 := by
  have := Nat.pow_le_pow_right (n := 256) (by decide) h
  exact Nat.le_trans this (by decide)
theorem pow_8 (w : Nat) : 2 ^ (8 * w) = 256 ^ w := by rw [Nat.pow_mul]

/-- Does n go into w bytes? -/
def fitsN (n w : Int) : Bool := decide (1 ≤ w ∧ w ≤ 8 ∧ 0 ≤ n ∧ n.toNat < 256 ^ w.toNat)

/-- The number of w bytes that B begins with. -/
def firstN (B : List Nat) (w : Int) : Option Nat :=
  if 1 ≤ w ∧ w ≤ 8 ∧ w ≤ B.length ∧ valN (B.take w.toNat) < 9223372036854775808 then some (valN (B.take w.toNat)) else none

/-- A scan's Number: what it answers, what is left, the error. -/
def scanNum (B : List Nat) (E w : Int) : Int × List Nat × Int :=
  if E ≠ 0 then (0, B, E) else
  match firstN B w with
  | none => (0, B, 20)
  | some n => (n, B.drop w.toNat, 0)
/-- A scan's Text. -/
def scanText (B : List Nat) (E m : Int) : List Nat × List Nat × Int :=
  if E ≠ 0 then ([], B, E) else
  match firstN B 2 with
  | none => ([], B, 20)
  | some n => if (n : Int) ≤ m ∧ n + 2 ≤ B.length then ((B.drop 2).take n, B.drop (2 + n), 0) else ([], B, 20)
def noughtsN (B : List Nat) (E : Int) : Bool := decide (E = 0) && B.all (· == 0)

/-- Noughts behind A, up to a multiple of n. -/
def missN (l : Nat) (n : Int) : Nat := if n < 1 then 0 else if l % n.toNat = 0 then 0 else n.toNat - l % n.toNat
def padN (A : List Nat) (n : Int) : List Nat := A ++ List.replicate (missN A.length n) 0

theorem scanNum_err {B : List Nat} {E : Int} (w : Int) (h : E ≠ 0) : scanNum B E w = (0, B, E) := by simp [scanNum, h]
theorem scanNum_lt {B : List Nat} {E w : Int} (hB : ∀ x ∈ B, x < 256) : ∀ x ∈ (scanNum B E w).2.1, x < 256 := by
  intro x hx
  unfold scanNum at hx
  split at hx
  · exact hB x hx
  · split at hx
    · exact hB x hx
    · exact hB x (List.mem_of_mem_drop hx)
theorem scanNum_len (B : List Nat) (E w : Int) : (scanNum B E w).2.1.length ≤ B.length := by
  unfold scanNum
  split
  · simp
  · split <;> simp
theorem scanText_lt {B : List Nat} {E m : Int} (hB : ∀ x ∈ B, x < 256) : (∀ x ∈ (scanText B E m).1, x < 256) ∧ ∀ x ∈ (scanText B E m).2.1, x < 256 := by
  unfold scanText
  split
  · exact ⟨by simp, hB⟩
  · split
    · exact ⟨by simp, hB⟩
    · split
      · exact ⟨fun x hx => hB x (List.mem_of_mem_drop (List.mem_of_mem_take hx)), fun x hx => hB x (List.mem_of_mem_drop hx)⟩
      · exact ⟨by simp, hB⟩
theorem scanText_len (B : List Nat) (E m : Int) : (scanText B E m).2.1.length ≤ B.length := by
  unfold scanText
  split
  · simp
  · split
    · simp
    · split <;> simp

/-- 8 bytes are below 2^63 just where the first of them is below 128. -/
theorem eight_lt (B : List Nat) (hB : ∀ x ∈ B, x < 256) (hl : 8 ≤ B.length) : valN (B.take 8) < 9223372036854775808 ↔ B.getD 0 0 ≤ 127 := by
  match B, hl with
  | x :: B, hl =>
    simp only [List.take_succ_cons, List.getD_cons_zero]
    have h7 : (B.take 7).length = 7 := by simp at hl ⊢; omega
    rw [valN_cons, h7]
    have h1 := valN_lt (B.take 7) (fun y hy => hB y (by simp [List.mem_of_mem_take hy]))
    rw [h7] at h1
    have e : 256 ^ 7 = 72057594037927936 := by decide
    rw [e] at h1 ⊢
    omega
theorem seven_lt (B : List Nat) (hB : ∀ x ∈ B, x < 256) (w : Nat) (hw : w ≤ 7) : valN (B.take w) < 9223372036854775808 := by
  have h1 := valN_lt (B.take w) (fun y hy => hB y (List.mem_of_mem_take hy))
  have h2 : (B.take w).length ≤ 7 := by simp; omega
  have h3 := pow256_le7 h2
  omega
theorem val_take_lt (B : List Nat) (hB : ∀ x ∈ B, x < 256) (w k : Nat) (hk : k ≤ w) (hw : w ≤ B.length) : valN (B.take k) ≤ valN (B.take w) := by
  have h : ∀ j, j + k ≤ B.length → valN (B.take k) ≤ valN (B.take (j + k)) := by
    intro j
    induction j with
    | zero => simp
    | succ j ih =>
      intro hj
      have h1 := ih (by omega)
      rw [show j + 1 + k = (j + k) + 1 by omega, ← List.take_append_getElem (by omega : j + k < B.length), valN_snoc]
      omega
  have := h (w - k) (by omega)
  rwa [show w - k + k = w by omega] at this

/-- What is put is told again. -/
theorem firstN_num (n w : Nat) (R : List Nat) (h1 : 1 ≤ w) (h8 : w ≤ 8) (hn : n < 256 ^ w) (h63 : n < 9223372036854775808) : firstN (numB n w ++ R) w = some n := by
  have ht : (numB n w ++ R).take (w : Int).toNat = numB n w := by
    rw [Int.toNat_natCast, List.take_append_of_le_length (by rw [numB_length]; exact Nat.le_refl _), List.take_of_length_le (by rw [numB_length]; exact Nat.le_refl _)]
  unfold firstN
  rw [ht, valN_numB w n hn, if_pos ⟨by omega, by omega, by simp [numB_length]; omega, h63⟩]
theorem drop_num (n w : Nat) (R : List Nat) : (numB n w ++ R).drop w = R := by
  rw [List.drop_append_of_le_length (by rw [numB_length]; exact Nat.le_refl _), List.drop_of_length_le (by rw [numB_length]; exact Nat.le_refl _)]
  rfl
theorem scanNum_num (n w : Nat) (R : List Nat) (h1 : 1 ≤ w) (h8 : w ≤ 8) (hn : n < 256 ^ w) (h63 : n < 9223372036854775808) : scanNum (numB n w ++ R) 0 w = ((n : Int), R, 0) := by
  simp [scanNum, firstN_num n w R h1 h8 hn h63, drop_num]
def textB (B : List Nat) : List Nat := numB B.length 2 ++ B
theorem textB_lt (B : List Nat) (hB : ∀ x ∈ B, x < 256) : ∀ x ∈ textB B, x < 256 := by
  intro x hx
  rcases List.mem_append.1 hx with h | h
  · exact numB_lt _ _ x h
  · exact hB x h
theorem textB_length (B : List Nat) : (textB B).length = B.length + 2 := by simp [textB, numB_length]; omega
theorem scanText_text (B R : List Nat) (m : Int) (hm : (B.length : Int) ≤ m) (hl : B.length < 65536) : scanText (textB B ++ R) 0 m = (B, R, 0) := by
  have h1 := firstN_num B.length 2 (B ++ R) (by decide) (by decide) (by simpa using hl) (by omega)
  have h2 := drop_num B.length 2 (B ++ R)
  have e : textB B ++ R = numB B.length 2 ++ (B ++ R) := by simp [textB]
  have h1' : firstN (numB B.length 2 ++ (B ++ R)) 2 = some B.length := h1
  have h3 : (numB B.length 2 ++ (B ++ R)).drop (2 + B.length) = R := by rw [← List.drop_drop, h2]; simp
  rw [e]
  unfold scanText
  simp only [ne_eq, not_true_eq_false, if_false, h1']
  rw [if_pos ⟨hm, by simp [numB_length]; omega⟩, h2, h3]
  simp

/-- Bytes stand as numbers do. -/
def lexN : List Nat → List Nat → Bool
  | [], [] => false
  | [], _ :: _ => true
  | _ :: _, [] => false
  | x :: A, y :: B => if x < y then true else if y < x then false else lexN A B
theorem lexN_val : ∀ (A B : List Nat), A.length = B.length → (∀ x ∈ A, x < 256) → (∀ x ∈ B, x < 256) → lexN A B = decide (valN A < valN B)
  | [], [], _, _, _ => rfl
  | x :: A, y :: B, h, hA, hB => by
    have hl : A.length = B.length := by simpa using h
    have h1 := valN_lt A (fun z hz => hA z (by simp [hz]))
    have h2 := valN_lt B (fun z hz => hB z (by simp [hz]))
    have ih := lexN_val A B hl (fun z hz => hA z (by simp [hz])) (fun z hz => hB z (by simp [hz]))
    rw [lexN, valN_cons, valN_cons, ih, hl]
    rw [hl] at h1
    generalize 256 ^ B.length = q at *
    by_cases hxy : x < y
    · rw [if_pos hxy]
      have : (x + 1) * q ≤ y * q := Nat.mul_le_mul_right q hxy
      rw [Nat.add_mul] at this
      symm; simp; omega
    · rw [if_neg hxy]
      by_cases hyx : y < x
      · rw [if_pos hyx]
        have : (y + 1) * q ≤ x * q := Nat.mul_le_mul_right q hyx
        rw [Nat.add_mul] at this
        symm; simp; omega
      · rw [if_neg hyx]
        obtain rfl : x = y := by omega
        simp
theorem lexN_num {a b w : Nat} (ha : a < 256 ^ w) (hb : b < 256 ^ w) : lexN (numB a w) (numB b w) = decide (a < b) := by
  rw [lexN_val _ _ (by rw [numB_length, numB_length]) (numB_lt w a) (numB_lt w b), valN_numB w a ha, valN_numB w b hb]

end Go.Proofs.Ytnlcmgdeohbmoaa
