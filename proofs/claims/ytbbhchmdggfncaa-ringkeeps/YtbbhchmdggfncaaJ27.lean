/-
  What Open finds behind a crash: a beginning of what was laid, with all that is surely there. Plain functions over lists; no condition beyond each law's own premises.
-/
import Derived.Test.YtbbhchmdggfncaaJ26
import Derived.Test.YtbbhchmdggfncaaJ22
import Derived.Test.YtbbhchmdggfncaaJ01
import Derived.Test.YtbbhchmdggfncaaJ25
namespace Go.Proofs.Ytbbhchmdggfncaa
open Go.RowKit Go.Shelf
set_option linter.unusedSimpArgs false
set_option linter.unusedVariables false
set_option maxRecDepth 100000

/-- How many sectors records take. -/
def itsN : List It → Nat
  | [] => 0
  | x :: l => itN x + itsN l
theorem itsS_len : ∀ (p : Int) (l : List It), (itsS p l).length = itsN l
  | _, [] => rfl
  | p, x :: l => by rw [itsS, List.length_append, itS_length, itsS_len _ l, itsN]
theorem itsN_append : ∀ (a b : List It), itsN (a ++ b) = itsN a + itsN b
  | [], b => by simp [itsN]
  | x :: a, b => by rw [List.cons_append, itsN, itsN, itsN_append a b]; omega
theorem itsS_append : ∀ (p : Int) (a b : List It), itsS p (a ++ b) = itsS p a ++ itsS (p + itsN a) b
  | p, [], b => by simp [itsS, itsN]
  | p, x :: a, b => by
    rw [List.cons_append, itsS, itsS, itsS_append _ a b, itsN, List.append_assoc, show p + (itN x : Int) + (itsN a : Int) = p + ((itN x + itsN a : Nat) : Int) by omega]
theorem tells_append : ∀ (p : Int) (a b : List It), tells p (a ++ b) = tells p a ++ tells (p + itsN a) b
  | p, [], b => by simp [tells, itsN]
  | p, x :: a, b => by
    rw [List.cons_append, tells, tells, tells_append _ a b, itsN, List.cons_append, show p + (itN x : Int) + (itsN a : Int) = p + ((itN x + itsN a : Nat) : Int) by omega]
theorem tells_length : ∀ (p : Int) (l : List It), (tells p l).length = l.length
  | _, [] => rfl
  | p, x :: l => by rw [tells, List.length_cons, tells_length _ l, List.length_cons]
theorem tells_take : ∀ (p : Int) (l : List It) (m : Nat), (tells p l).take m = tells p (l.take m)
  | _, [], m => by simp [tells]
  | _, _ :: _, 0 => by simp [tells]
  | p, x :: l, m + 1 => by rw [tells, List.take_succ_cons, List.take_succ_cons, tells, tells_take _ l m]
/-- Is the last one a switch? -/
def endsIn (l : List It) : Bool := match l.getLast? with
  | some x => decide (x.2.kind = 2)
  | none => false
/-- The last one's epoch, or what it was. -/
def lastE (le : Int) (l : List It) : Int := match l.getLast? with
  | some x => x.1
  | none => le
theorem stO_tells (p le : Int) (l : List It) : stO p le (tells p l) = (p + itsN l, lastE le l, endsIn l) := by
  rcases List.eq_nil_or_concat l with rfl | ⟨a, x, rfl⟩
  · simp [tells, stO, itsN, lastE, endsIn]
  · rw [List.concat_eq_append, tells_append]
    show stO p le (tells p a ++ [_]) = _
    rw [stO_snoc, itsN_append]
    simp [itsN, lastE, endsIn]
    omega
theorem nextO_in {sz k t : Nat} (h1 : 1 ≤ t) (h2 : t ≤ sz) : nextO sz (((sz * k : Nat) : Int) + t) = ((sz * (k + 1) : Nat) : Int) := by
  unfold nextO
  have e : (((sz * k : Nat) : Int) + t - 1) = ((t - 1 + sz * k : Nat) : Int) := by omega
  rw [e]
  have e2 : ((t - 1 + sz * k : Nat) : Int) % (sz : Int) = ((t - 1 : Nat) : Int) := by
    rw [← Int.natCast_emod, Nat.add_mul_mod_self_left, Nat.mod_eq_of_lt (by omega)]
  rw [e2, Nat.mul_add, Nat.mul_one]
  omega
/-- Open goes through a segment. -/
theorem opRun_seg {sz : Nat} (hsz : 0 < sz) {ep lim : Int} {rd : Nat → List Nat} {k m : Nat} {S : List (List Nat)} (h64 : ∀ x ∈ S, x.length = 64) (hrd : rd k = S.flatten) {l : List It} {le : Int} (hL : Lays lim ((sz * k : Nat) : Int) l m S) (hm : m < sz + 1) (hf : fits sz ep lim 0 le (l.take m)) (j : Nat) :
    opRun sz ep rd (j + 1) ((sz * k : Nat) : Int) le = if endsIn (l.take m) then (tells ((sz * k : Nat) : Int) (l.take m) ++ (opRun sz ep rd j (nextO sz (((sz * k : Nat) : Int) + itsN (l.take m))) (lastE le (l.take m))).1, (opRun sz ep rd j (nextO sz (((sz * k : Nat) : Int) + itsN (l.take m))) (lastE le (l.take m))).2) else (tells ((sz * k : Nat) : Int) (l.take m), ((sz * k : Nat) : Int) + itsN (l.take m)) := by
  have hw : walkB sz ep (rd ((((sz * k : Nat) : Int)).toNat / sz)) (sz + 1) ((((sz * k : Nat) : Int)).toNat % sz) ((sz * k : Nat) : Int) le = tells ((sz * k : Nat) : Int) (l.take m) := by
    rw [Int.toNat_natCast, Nat.mul_div_cancel_left _ hsz, Nat.mul_mod_right, hrd, walkB_L h64, List.drop_zero]
    exact walk_lays hL (sz + 1) 0 le hm hf
  rw [opRun]
  simp only [hw, stO_tells]
/-- Each belongs where it lies, all are of one epoch. -/
def segFits (sz : Nat) (e0 : Int) : Nat → List It → Prop
  | _, [] => True
  | s, x :: l => s < sz ∧ belN x.2.kind (itN x) s sz = true ∧ x.1 = e0 ∧ segFits sz e0 (s + itN x) l
theorem fits_take {sz : Nat} {e0 most lim : Int} (h0 : lim < e0) (h2 : e0 ≤ most) : ∀ (l : List It) (s m : Nat) (least : Int), segFits sz e0 s l → lim < least → least ≤ e0 → fits sz most lim s least (l.take m)
  | [], s, m, least, _, h1, _ => by simpa [fits] using h1
  | x :: l, s, 0, least, _, h1, _ => by simpa [fits] using h1
  | x :: l, s, m + 1, least, ⟨f1, f2, f3, f4⟩, h1, h3 => by
    rw [List.take_succ_cons]
    exact ⟨f1, f2, by rw [f3]; exact h3, by rw [f3]; exact h2, .inr (by rw [f3]; exact fits_take h0 h2 l _ m e0 f4 h0 (Int.le_refl _))⟩
theorem itN_pos (x : It) : 1 ≤ itN x := by unfold itN sectN; omega
theorem itN_switch {x : It} (h : x.2.kind = 2) : itN x = 1 := by
  unfold itN putR
  rw [if_pos h, h]
  rfl
theorem segFits_len {sz : Nat} {e0 : Int} : ∀ (l : List It) (s : Nat), s ≤ sz → segFits sz e0 s l → l.length ≤ sz - s
  | [], _, _, _ => by simp
  | [x], s, _, ⟨f1, _⟩ => by simp; omega
  | x :: y :: l, s, _, ⟨f1, f2, f3, f4⟩ => by
    have h1 := itN_pos x
    have h2 : s + itN x < sz := f4.1
    have := segFits_len (y :: l) (s + itN x) (by omega) f4
    simp only [List.length_cons] at this ⊢
    omega
theorem segFits_end {sz : Nat} {e0 : Int} : ∀ (l : List It) (s : Nat), segFits sz e0 s l → endsIn l = true → s + itsN l ≤ sz
  | [], _, _, h => by simp [endsIn] at h
  | [x], s, ⟨f1, _⟩, h => by
    have hk : x.2.kind = 2 := by simpa [endsIn] using h
    rw [itsN, itsN, itN_switch hk]
    omega
  | x :: y :: l, s, ⟨f1, f2, f3, f4⟩, h => by
    have := segFits_end (y :: l) (s + itN x) f4 (by simpa [endsIn, List.getLast?_cons_cons] using h)
    rw [itsN]
    omega
theorem segFits_last {sz : Nat} {e0 : Int} : ∀ (l : List It) (s : Nat), segFits sz e0 s l → ∀ x ∈ l, x.1 = e0
  | [], _, _, x, hx => by simp at hx
  | y :: l, s, ⟨_, _, f3, f4⟩, x, hx => by
    rcases List.mem_cons.1 hx with rfl | hx
    · exact f3
    · exact segFits_last l _ f4 x hx
theorem lastE_eq {sz : Nat} {e0 le : Int} {l : List It} {s : Nat} (h : segFits sz e0 s l) (hl : l ≠ []) : lastE le l = e0 := by
  unfold lastE
  rw [List.getLast?_eq_some_getLast hl]
  exact segFits_last l s h _ (List.getLast_mem hl)
/-- A switch stands at the end alone: what was cut off before it isn't ended by one. -/
theorem endsIn_take : ∀ (p : Int) (l : List It) (m : Nat), itsOk p l → endsIn (l.take m) = true → l.length ≤ m
  | _, [], m, _, h => by simp [endsIn] at h
  | _, _ :: _, 0, _, h => by simp [endsIn] at h
  | p, [x], m + 1, _, _ => by simp
  | p, x :: y :: l, m + 1, ⟨_, hsw, hl⟩, h => by
    cases m with
    | zero =>
      have hk : x.2.kind = 2 := by simpa [endsIn] using h
      exact absurd (hsw hk) (by simp)
    | succ m =>
      have := endsIn_take _ (y :: l) (m + 1) hl (by
        rw [List.take_succ_cons, List.take_succ_cons] at h
        simpa [endsIn, List.getLast?_cons_cons] using h)
      simp only [List.length_cons] at this ⊢
      omega
/-- What is told of all segments. -/
def tellAll (sz : Nat) : Nat → List (List It) → List En
  | _, [] => []
  | k, l :: ls => tells ((sz * k : Nat) : Int) l ++ tellAll sz (k + 1) ls
/-- Where the end is behind so many records. -/
def endAll (sz : Nat) : Nat → List (List It) → Nat → Int
  | k, [], _ => ((sz * k : Nat) : Int)
  | k, l :: ls, M => if l.length ≤ M ∧ endsIn l = true then endAll sz (k + 1) ls (M - l.length) else ((sz * k : Nat) : Int) + itsN (l.take M)
/-- A segment behind a crash: S are its records' sectors, each there or none; T lies behind them. -/
structure SegIs (sz : Nat) (e0 : Int) (z : List Nat) (rd : Nat → List Nat) (k : Nat) (l : List It) (S T : List (List Nat)) : Prop where
  ok : itsOk ((sz * k : Nat) : Int) l
  fit : segFits sz e0 0 l
  some : l ≠ []
  rd : rd k = (S ++ T).flatten
  len : S.length = (itsS ((sz * k : Nat) : Int) l).length
  or : ∀ (i : Nat) (y : List Nat), S[i]? = .some y → y = z ∨ (itsS ((sz * k : Nat) : Int) l)[i]? = .some y
  t64 : ∀ y ∈ T, y.length = 64
  last : T.head? = .some z ∨ ∃ x, l.getLast? = .some x ∧ x.2.kind = 2
theorem endsIn_of {l : List It} (h : endsIn l = true) : ∃ x, l.getLast? = some x ∧ x.2.kind = 2 := by
  unfold endsIn at h
  cases hl : l.getLast? with
  | none => rw [hl] at h; simp at h
  | some x => rw [hl] at h; exact ⟨x, rfl, by simpa using h⟩
/-- The segments up to so many records: those that a switch has ended, and the one that is open. -/
def cutS : List (List It) → Nat → List (List It) × List It
  | [], _ => ([], [])
  | l :: ls, M => if l.length ≤ M ∧ endsIn l = true then (l :: (cutS ls (M - l.length)).1, (cutS ls (M - l.length)).2) else ([], l.take M)
/-- What lies is there. -/
theorem lays_take {lim : Int} {p : Int} {l : List It} {m : Nat} {S : List (List Nat)} (h : Lays lim p l m S) : S.take (itsN (l.take m)) = itsS p (l.take m) := by
  induction h with
  | last p S _ => simp [itsN, itsS]
  | hole p x l j z S _ _ _ _ _ => simp [itsN, itsS]
  | full p x l m S _ _ _ _ ih =>
    rw [List.take_succ_cons, itsN, itsS, List.take_append, itS_length, List.take_of_length_le (by rw [itS_length]; omega), Nat.add_sub_cancel_left, ih]
  | switch p x S _ _ _ =>
    rw [List.take_succ_cons, List.take_nil, itsN, itsN, itsS, itsS, List.append_nil, Nat.add_zero, List.take_left' (itS_length p x)]
theorem opRun_crash {sz : Nat} (hsz : 0 < sz) {e0 : Int} (he : 0 ≤ e0) {z : List Nat} (hz : (getN z).2 ≠ 0) (hz64 : z.length = 64) {rd : Nat → List Nat} : ∀ (segs : List (List It)) (k j : Nat) (le : Int) (S T : Nat → List (List Nat)), segs ≠ [] → segs.length ≤ j → 0 ≤ le → le ≤ e0 →
    (∀ (i : Nat) (l : List It), segs[i]? = some l → SegIs sz e0 z rd (k + i) l (S i) (T i) ∧ (i + 1 < segs.length ↔ endsIn l = true)) →
    ∃ M, (∀ ep, e0 ≤ ep → opRun sz ep rd j ((sz * k : Nat) : Int) le = ((tellAll sz k segs).take M, endAll sz k segs M)) ∧ M ≤ (tellAll sz k segs).length ∧
      (∀ (i : Nat) (l' : List It), ((cutS segs M).1 ++ [(cutS segs M).2])[i]? = some l' → i < segs.length → (S i ++ T i).take (itsN l') = itsS ((sz * (k + i) : Nat) : Int) l') ∧
      ∀ (a q : Nat) (l : List It), segs[a]? = some l → (∀ i, i < a → ∀ l', segs[i]? = some l' → S i = itsS ((sz * (k + i) : Nat) : Int) l') → q ≤ l.length → (∀ i, i < (itsS ((sz * (k + a) : Nat) : Int) (l.take q)).length → (S a)[i]? = (itsS ((sz * (k + a) : Nat) : Int) l)[i]?) → (segs.take a).flatten.length + q ≤ M
  | [], _, _, _, _, _, h, _, _, _, _ => absurd rfl h
  | l :: ls, k, j, le, S, T, _, hj, h0, h1, hs => by
    obtain ⟨j, rfl⟩ : ∃ i, j = i + 1 := ⟨j - 1, by simp at hj; omega⟩
    obtain ⟨hl, hlast⟩ := hs 0 l rfl
    rw [Nat.add_zero] at hl
    obtain ⟨m, hm, hL, hmax⟩ := lays_exists (lim := -1) (by decide) z hz hz64 l _ (S 0) (T 0) hl.ok hl.len hl.or hl.t64 hl.last
    have hlen := segFits_len l 0 (Nat.zero_le _) hl.fit
    have h64 : ∀ x ∈ S 0 ++ T 0, x.length = 64 := by
      intro x hx
      rcases List.mem_append.1 hx with hx | hx
      · obtain ⟨i, hi⟩ := List.mem_iff_getElem?.1 hx
        rcases hl.or i x hi with rfl | h
        · exact hz64
        · exact itsS_64 _ l x (List.mem_of_getElem? h)
      · exact hl.t64 x hx
    have hrun := fun (ep : Int) (hep : e0 ≤ ep) => opRun_seg hsz h64 hl.rd hL (by omega) (fits_take (by omega) hep l 0 m le hl.fit (by omega) h1) j
    by_cases hend : endsIn (l.take m) = true
    · have hml := endsIn_take _ l m hl.ok hend
      obtain rfl : m = l.length := by omega
      rw [List.take_length] at hend
      simp only [List.take_length, if_pos hend] at hrun
      have hsum := segFits_end l 0 hl.fit hend
      have hpos : 1 ≤ itsN l := by
        cases l with
        | nil => exact absurd rfl hl.some
        | cons x l => have := itN_pos x; rw [itsN]; omega
      simp only [nextO_in hpos (show itsN l ≤ sz by omega), lastE_eq hl.fit hl.some] at hrun
      have hlsne : ls ≠ [] := by
        intro e
        have := hlast.2 hend
        rw [e] at this
        simp at this
      obtain ⟨M, hM, hMl, hMc, hMq⟩ := opRun_crash hsz he hz hz64 ls (k + 1) j e0 (fun i => S (i + 1)) (fun i => T (i + 1)) hlsne (by simp at hj; omega) he (Int.le_refl _) (fun i l' hi => by
        have := hs (i + 1) l' (by simpa using hi)
        rw [show k + (i + 1) = k + 1 + i by omega] at this
        refine ⟨this.1, ?_⟩
        rw [← this.2]
        simp)
      refine ⟨l.length + M, ?_, ?_, ?_, ?_⟩
      · intro ep hep
        rw [hrun ep hep, hM ep hep]
        simp only [tellAll, endAll]
        rw [if_pos ⟨by omega, hend⟩, Nat.add_sub_cancel_left]
        congr 1
        rw [← tells_length ((sz * k : Nat) : Int) l, List.take_length_add_append]
      · simp only [tellAll, List.length_append, tells_length]
        omega
      · intro i l' hi hil
        rw [cutS, if_pos ⟨by omega, hend⟩, Nat.add_sub_cancel_left] at hi
        cases i with
        | zero =>
          simp at hi
          subst hi
          have := lays_take hL
          rw [List.take_length] at this
          simpa using this
        | succ i =>
          have := hMc i l' (by simpa using hi) (by simp at hil; omega)
          rw [show k + (i + 1) = k + 1 + i by omega]
          exact this
      · intro a q l' ha hfull hq hqs
        cases a with
        | zero =>
          simp at ha
          subst ha
          simp
          omega
        | succ a =>
          have := hMq a q l' (by simpa using ha) (fun i hi l2 h2 => by
            have := hfull (i + 1) (by omega) l2 (by simpa using h2)
            rw [show k + (i + 1) = k + 1 + i by omega] at this
            exact this) hq (by rw [show k + 1 + a = k + (a + 1) by omega]; exact hqs)
          simp only [List.take_succ_cons, List.flatten_cons, List.length_append]
          omega
    · simp only [if_neg hend] at hrun
      refine ⟨m, ?_, ?_, ?_, ?_⟩
      · intro ep hep
        rw [hrun ep hep]
        simp only [tellAll, endAll]
        have hno : ¬ (l.length ≤ m ∧ endsIn l = true) := by
          rintro ⟨hle, he⟩
          rw [List.take_of_length_le hle] at hend
          exact hend he
        rw [if_neg hno, List.take_append_of_le_length (by rw [tells_length]; exact hm), tells_take]
      · simp only [tellAll, List.length_append, tells_length]
        omega
      · intro i l' hi hil
        have hno : ¬ (l.length ≤ m ∧ endsIn l = true) := by
          rintro ⟨hle, he⟩
          rw [List.take_of_length_le hle] at hend
          exact hend he
        rw [cutS, if_neg hno] at hi
        cases i with
        | zero =>
          simp at hi
          subst hi
          simpa using lays_take hL
        | succ i => simp at hi
      · intro a q l' ha hfull hq hqs
        cases a with
        | zero =>
          simp at ha
          subst ha
          simpa using hmax q hq hqs
        | succ a =>
          -- the first one would be whole
          exfalso
          have hS0 := hfull 0 (by omega) l rfl
          have hml := hmax l.length (Nat.le_refl _) (fun i _ => by rw [hS0, Nat.add_zero])
          have hlt : 0 + 1 < (l :: ls).length := by
            have : a + 1 < (l :: ls).length := by
              rcases Nat.lt_or_ge (a + 1) (l :: ls).length with h | h
              · exact h
              · rw [List.getElem?_eq_none h] at ha; cases ha
            omega
          have := hlast.1 hlt
          rw [List.take_of_length_le hml] at hend
          exact hend this
end Go.Proofs.Ytbbhchmdggfncaa


/-
  A device's sectors as a list of lists of numbers; what stays of what waits. No condition beyond each law's own premises.
-/
namespace Go.Proofs.Ytbbhchmdggfncaa
open Go.RowKit Go.Shelf
set_option linter.unusedSimpArgs false
set_option linter.unusedVariables false
set_option maxRecDepth 100000

theorem flat_drop : ∀ (L : List (List Nat)) (p : Nat), (∀ x ∈ L, x.length = 64) → L.flatten.drop (64 * p) = (L.drop p).flatten
  | L, 0, _ => by simp
  | [], p + 1, _ => by simp
  | x :: L, p + 1, h => by
    have hx := h x (by simp)
    rw [List.flatten_cons, List.drop_append, hx, List.drop_eq_nil_of_le (by omega), List.nil_append, show 64 * (p + 1) - 64 = 64 * p by omega, flat_drop L p (fun y hy => h y (by simp [hy])), List.drop_succ_cons]
theorem flat_take : ∀ (L : List (List Nat)) (p : Nat), (∀ x ∈ L, x.length = 64) → L.flatten.take (64 * p) = (L.take p).flatten
  | L, 0, _ => by simp
  | [], p + 1, _ => by simp
  | x :: L, p + 1, h => by
    have hx := h x (by simp)
    rw [List.flatten_cons, List.take_append, hx, List.take_of_length_le (by omega), show 64 * (p + 1) - 64 = 64 * p by omega, flat_take L p (fun y hy => h y (by simp [hy])), List.take_succ_cons, List.flatten_cons]
theorem put_flat {L : List (List Nat)} {a : Nat} {A : List Nat} (h : ∀ x ∈ L, x.length = 64) (ha : a < L.length) (hA : A.length = 64) : put (BV L.flatten) (64 * a) (BV A) = BV (L.set a A).flatten := by
  unfold put
  rw [← BV_take, BV_length, hA, show 64 * a + 64 = 64 * (a + 1) by omega, ← BV_drop, flat_take L a h, flat_drop L (a + 1) h, ← BV_append, ← BV_append]
  congr 1
  rw [List.set_eq_take_append_cons_drop, if_pos ha, List.flatten_append, List.flatten_cons, List.append_assoc]
theorem new_lit (n : Nat) : D.DS.new n = ⟨BV (List.replicate n (List.replicate 64 0)).flatten, [], 0, -1, false⟩ := by
  have : (List.replicate n (List.replicate 64 0)).flatten = List.replicate (n * 64) 0 := by
    rw [List.flatten_replicate_replicate]
  unfold D.DS.new
  rw [this]
  simp [BV]
theorem part_many {L : List (List Nat)} (h : ∀ x ∈ L, x.length = 64) (p m : Nat) : D.part (BV L.flatten) p m = BV ((L.drop p).take m).flatten := by
  unfold D.part
  rw [← BV_drop, flat_drop L p h, ← BV_take, flat_take _ m (fun x hx => h x (List.mem_of_mem_drop hx))]
/-- The sectors when of the first k that wait those stay of which kf says so. -/
def laidL (kf : Nat → Bool) (W : List (Nat × List Nat)) (L : List (List Nat)) : Nat → List (List Nat)
  | 0 => L
  | k + 1 => match W[k]? with
    | some p => if kf k then (laidL kf W L k).set p.1 p.2 else laidL kf W L k
    | none => laidL kf W L k
def wsV (W : List (Nat × List Nat)) : List (Nat × List Value) := W.map fun p => (p.1, BV p.2)
theorem laidL_length (kf : Nat → Bool) (W : List (Nat × List Nat)) (L : List (List Nat)) : ∀ k, (laidL kf W L k).length = L.length
  | 0 => rfl
  | k + 1 => by
    unfold laidL
    split
    · split
      · rw [List.length_set]; exact laidL_length kf W L k
      · exact laidL_length kf W L k
    · exact laidL_length kf W L k
theorem laidL_64 {kf : Nat → Bool} {W : List (Nat × List Nat)} {L : List (List Nat)} (hL : ∀ x ∈ L, x.length = 64) (hW : ∀ p ∈ W, p.1 < L.length ∧ p.2.length = 64) : ∀ k, ∀ x ∈ laidL kf W L k, x.length = 64
  | 0 => hL
  | k + 1 => by
    intro x hx
    unfold laidL at hx
    split at hx
    · rename_i p hp
      split at hx
      · rcases List.mem_or_eq_of_mem_set hx with h | rfl
        · exact laidL_64 hL hW k x h
        · exact (hW p (List.mem_of_getElem? hp)).2
      · exact laidL_64 hL hW k x hx
    · exact laidL_64 hL hW k x hx
theorem laidL_succ (kf : Nat → Bool) {W : List (Nat × List Nat)} (L : List (List Nat)) {k : Nat} {p : Nat × List Nat} (h : W[k]? = some p) : laidL kf W L (k + 1) = if kf k then (laidL kf W L k).set p.1 p.2 else laidL kf W L k := by
  simp only [laidL, h]
theorem laid_flat {kf : Nat → Bool} {W : List (Nat × List Nat)} {L : List (List Nat)} (hL : ∀ x ∈ L, x.length = 64) (hW : ∀ p ∈ W, p.1 < L.length ∧ p.2.length = 64) : ∀ k, k ≤ W.length → D.laidTo kf (wsV W) (BV L.flatten) k = BV (laidL kf W L k).flatten
  | 0, _ => rfl
  | k + 1, hk => by
    have hp : W[k]? = some W[k] := List.getElem?_eq_getElem (by omega)
    have hp2 : (wsV W)[k]? = some (W[k].1, BV W[k].2) := by simp [wsV, hp]
    rw [D.laidTo_succ kf _ _ k _ hp2, laid_flat hL hW k (by omega)]
    rw [laidL_succ kf L hp]
    have hm := hW W[k] (List.getElem_mem _)
    cases hkf : kf k with
    | true =>
      rw [if_pos rfl, if_pos rfl]
      exact put_flat (laidL_64 hL hW k) (by rw [laidL_length]; exact hm.1) hm.2
    | false =>
      rw [if_neg (by simp), if_neg (by simp)]
/-- A sector is as it was, or as one of those that waited and stayed. -/
theorem laidL_some {kf : Nat → Bool} {W : List (Nat × List Nat)} {L : List (List Nat)} {p : Nat} {y : List Nat} : ∀ k, (laidL kf W L k)[p]? = some y → L[p]? = some y ∨ ∃ i, i < k ∧ W[i]? = some (p, y) ∧ kf i = true
  | 0, h => .inl h
  | k + 1, h => by
    have ih := laidL_some (kf := kf) (W := W) (L := L) (p := p) (y := y) k
    have more : (laidL kf W L k)[p]? = some y → L[p]? = some y ∨ ∃ i, i < k + 1 ∧ W[i]? = some (p, y) ∧ kf i = true := fun h => (ih h).imp id (fun ⟨i, hi, h2⟩ => ⟨i, by omega, h2⟩)
    unfold laidL at h
    split at h
    · rename_i q hq
      split at h
      · rename_i hk
        by_cases hpq : q.1 = p
        · subst hpq
          rw [List.getElem?_set] at h
          split at h
          · split at h
            · right
              refine ⟨k, by omega, ?_, hk⟩
              rw [hq]
              simp only [Option.some.injEq] at h
              rw [← h]
            · cases h
          · exact more h
        · rw [List.getElem?_set_ne hpq] at h
          exact more h
      · exact more h
    · exact more h
/-- What stays, and is all that was written there, is there. -/
theorem laidL_one {kf : Nat → Bool} {W : List (Nat × List Nat)} {L : List (List Nat)} {p : Nat} {y : List Nat} (hp : p < L.length) (hone : ∀ (j : Nat) (x : List Nat), W[j]? = some (p, x) → x = y) : ∀ k, (∃ i, i < k ∧ W[i]? = some (p, y) ∧ kf i = true) ∨ L[p]? = some y → (laidL kf W L k)[p]? = some y
  | 0, h => by
    rcases h with ⟨i, hi, _⟩ | h
    · omega
    · exact h
  | k + 1, h => by
    have ih := laidL_one (kf := kf) (L := L) hp hone k
    have hlen := laidL_length kf W L k
    unfold laidL
    split
    · rename_i q hq
      by_cases hpq : q.1 = p
      · have hy : q.2 = y := hone k q.2 (by rw [hq, ← hpq])
        split
        · rw [hpq, hy, List.getElem?_set_self (by omega)]
        · rename_i hkf
          refine ih ?_
          rcases h with ⟨i, hi, h1, h2⟩ | h
          · by_cases hik : i = k
            · subst hik; exact absurd h2 hkf
            · exact .inl ⟨i, by omega, h1, h2⟩
          · exact .inr h
      · have ih2 : (laidL kf W L k)[p]? = some y := by
          refine ih ?_
          rcases h with ⟨i, hi, h1, h2⟩ | h
          · by_cases hik : i = k
            · subst hik
              rw [hq] at h1
              simp only [Option.some.injEq] at h1
              exact absurd (by rw [h1]) hpq
            · exact .inl ⟨i, by omega, h1, h2⟩
          · exact .inr h
        split
        · rw [List.getElem?_set_ne hpq]; exact ih2
        · exact ih2
    · rename_i hq
      refine ih ?_
      rcases h with ⟨i, hi, h1, h2⟩ | h
      · by_cases hik : i = k
        · subst hik; rw [hq] at h1; cases h1
        · exact .inl ⟨i, by omega, h1, h2⟩
      · exact .inr h
end Go.Proofs.Ytbbhchmdggfncaa


/-
  A ring's device: what is laid at each place, what waits, what is there behind a crash. Plain functions over lists; no condition beyond each law's own premises.
-/
namespace Go.Proofs.Ytbbhchmdggfncaa
open Go.RowKit Go.Shelf
set_option linter.unusedSimpArgs false
set_option linter.unusedVariables false
set_option maxRecDepth 100000

/-- A device that isn't off: its sectors, and those that wait. -/
def devL (L : List (List Nat)) (W : List (Nat × List Nat)) (c : Nat) : D.DS := ⟨BV L.flatten, wsV W, c, -1, false⟩
/-- Some sectors from a place on. -/
def putW (a : Nat) (S : List (List Nat)) : List (Nat × List Nat) := (List.range S.length).map fun i => (a + i, S.getD i [])
theorem secs_flat {S : List (List Nat)} (h : ∀ x ∈ S, x.length = 64) (a : Nat) : D.secs a (BV S.flatten) S.length = wsV (putW a S) := by
  unfold D.secs wsV putW
  rw [List.map_map]
  apply List.map_congr_left
  intro i hi
  have hi := List.mem_range.1 hi
  simp only [Function.comp_apply, Prod.mk.injEq, true_and]
  unfold D.sec
  rw [← BV_drop, ← BV_take, flat_at S i hi h, List.getD_eq_getElem?_getD, List.getElem?_eq_getElem hi]
  rfl
theorem devL_write {S : List (List Nat)} (h : ∀ x ∈ S, x.length = 64) (L : List (List Nat)) (W : List (Nat × List Nat)) (c a : Nat) : wDev (devL L W c) a S.length S.flatten = devL L (W ++ putW a S) (c + 1) := by
  have e : wDev (devL L W c) a S.length S.flatten = ⟨BV L.flatten, wsV W ++ D.secs a (BV S.flatten) S.length, c + 1, -1, false⟩ := rfl
  rw [e, secs_flat h]
  unfold devL wsV
  rw [List.map_append]
theorem devL_view (L : List (List Nat)) (c : Nat) : (devL L [] c).view = BV L.flatten := rfl
theorem devL_flush {L : List (List Nat)} {W : List (Nat × List Nat)} (hL : ∀ x ∈ L, x.length = 64) (hW : ∀ p ∈ W, p.1 < L.length ∧ p.2.length = 64) (c : Nat) : (devL L W c).errF = 0 ∧ (devL L W c).flushed = devL (laidL (fun _ => true) W L W.length) [] (c + 1) := by
  refine ⟨rfl, ?_⟩
  have e : (devL L W c).flushed = ⟨D.laidTo (fun _ => true) (wsV W) (BV L.flatten) (wsV W).length, [], c + 1, -1, false⟩ := rfl
  have hl : (wsV W).length = W.length := by simp [wsV]
  rw [e, hl, laid_flat hL hW _ (Nat.le_refl _)]
  rfl
theorem devL_crash {L : List (List Nat)} {W : List (Nat × List Nat)} (hL : ∀ x ∈ L, x.length = 64) (hW : ∀ p ∈ W, p.1 < L.length ∧ p.2.length = 64) (c : Nat) (ks : List Bool) : (devL L W c).crashed ks = devL (laidL (fun i => ks.getD i false) W L W.length) [] c := by
  have e : (devL L W c).crashed ks = ⟨D.laidTo (fun i => ks.getD i false) (wsV W) (BV L.flatten) (wsV W).length, [], c, -1, false⟩ := rfl
  have hl : (wsV W).length = W.length := by simp [wsV]
  rw [e, hl, laid_flat hL hW _ (Nat.le_refl _)]
  rfl

/-- What is laid at a place, by segments that lie one behind the other. -/
def layAt (sz : Nat) (segs : List (List It)) (p : Nat) : Option (List Nat) :=
  match segs[p / sz]? with
  | some l => (itsS ((sz * (p / sz) : Nat) : Int) l)[p % sz]?
  | none => none
theorem layAt_in {sz : Nat} (hsz : 0 < sz) {segs : List (List It)} {k i : Nat} {l : List It} (hk : segs[k]? = some l) (hi : i < sz) : layAt sz segs (sz * k + i) = (itsS ((sz * k : Nat) : Int) l)[i]? := by
  unfold layAt
  rw [Nat.mul_add_div hsz, Nat.div_eq_of_lt hi, Nat.add_zero, hk, Nat.mul_add_mod, Nat.mod_eq_of_lt hi]
theorem layAt_64 {sz : Nat} {segs : List (List It)} {p : Nat} {y : List Nat} (h : layAt sz segs p = some y) : y.length = 64 ∧ p / sz < segs.length := by
  unfold layAt at h
  split at h
  · rename_i l hl
    refine ⟨itsS_64 _ _ y (List.mem_of_getElem? h), ?_⟩
    rcases Nat.lt_or_ge (p / sz) segs.length with h | h
    · exact h
    · rw [List.getElem?_eq_none h] at hl; cases hl
  · cases h
theorem layAt_nil (sz : Nat) (pre : List (List It)) (p : Nat) : layAt sz (pre ++ [[]]) p = layAt sz pre p := by
  unfold layAt
  rcases Nat.lt_trichotomy (p / sz) pre.length with h | h | h
  · rw [List.getElem?_append_left h]
  · rw [h, List.getElem?_append_right (Nat.le_refl _), Nat.sub_self, List.getElem?_eq_none (Nat.le_refl pre.length)]
    simp [itsS]
  · rw [List.getElem?_eq_none (by simp; omega), List.getElem?_eq_none (by omega)]
/-- One more record, behind the last one. -/
theorem layAt_snoc {sz : Nat} (hsz : 0 < sz) {pre : List (List It)} {l : List It} {x : It} (hfit : itsN l + itN x ≤ sz) {e : Nat} (he : e = sz * pre.length + itsN l) :
    (∀ p y, layAt sz (pre ++ [l]) p = some y → layAt sz (pre ++ [l ++ [x]]) p = some y) ∧ (∀ q ∈ putW e (itS e x), layAt sz (pre ++ [l ++ [x]]) q.1 = some q.2) ∧
    (∀ p y, layAt sz (pre ++ [l ++ [x]]) p = some y → layAt sz (pre ++ [l]) p = some y ∨ (p, y) ∈ putW e (itS e x)) := by
  have hS : ∀ (k : Nat), k = pre.length → itsS ((sz * k : Nat) : Int) (l ++ [x]) = itsS ((sz * k : Nat) : Int) l ++ itS e x := by
    rintro k rfl
    rw [itsS_append, itsS, itsS, List.append_nil, he]
    congr 2
  have hlen : ∀ p : Int, (itsS p l).length = itsN l := fun p => itsS_len p l
  refine ⟨?_, ?_, ?_⟩
  · intro p y h
    unfold layAt at h ⊢
    rcases Nat.lt_trichotomy (p / sz) pre.length with h1 | h1 | h1
    · rw [List.getElem?_append_left h1] at h ⊢
      exact h
    · rw [h1, List.getElem?_append_right (Nat.le_refl _), Nat.sub_self] at h ⊢
      simp only [List.getElem?_cons_zero] at h ⊢
      rw [hS _ rfl, List.getElem?_append_left (by
        rcases Nat.lt_or_ge (p % sz) (itsS ((sz * pre.length : Nat) : Int) l).length with h2 | h2
        · exact h2
        · rw [List.getElem?_eq_none h2] at h; cases h)]
      exact h
    · rw [List.getElem?_eq_none (by simp; omega)] at h
      cases h
  · intro q hq
    obtain ⟨i, hi, rfl⟩ := List.mem_map.1 hq
    have hi := List.mem_range.1 hi
    have hi2 : i < itN x := by rw [itS_length] at hi; exact hi
    simp only []
    rw [he, Nat.add_assoc, layAt_in hsz (l := l ++ [x]) (by rw [List.getElem?_append_right (Nat.le_refl _), Nat.sub_self]; rfl) (by omega), hS _ rfl, List.getElem?_append_right (by rw [hlen]; omega), hlen, Nat.add_sub_cancel_left, List.getD_eq_getElem?_getD, ← he, List.getElem?_eq_getElem hi]
    rfl
  · intro p y h
    by_cases h1 : p / sz = pre.length
    · by_cases h2 : p % sz < itsN l
      · left
        unfold layAt at h ⊢
        rw [h1, List.getElem?_append_right (Nat.le_refl _), Nat.sub_self] at h ⊢
        simp only [List.getElem?_cons_zero] at h ⊢
        rw [hS _ rfl, List.getElem?_append_left (by rw [hlen]; exact h2)] at h
        exact h
      · right
        unfold layAt at h
        rw [h1, List.getElem?_append_right (Nat.le_refl _), Nat.sub_self] at h
        simp only [List.getElem?_cons_zero] at h
        rw [hS _ rfl, List.getElem?_append_right (by rw [hlen]; omega), hlen] at h
        have hp := Nat.div_add_mod p sz
        rw [h1] at hp
        refine List.mem_map.2 ⟨p % sz - itsN l, List.mem_range.2 ?_, ?_⟩
        · rcases Nat.lt_or_ge (p % sz - itsN l) (itS e x).length with h3 | h3
          · exact h3
          · rw [List.getElem?_eq_none h3] at h; cases h
        · rw [List.getD_eq_getElem?_getD, h]
          simp only [Option.getD_some, Prod.mk.injEq, and_true]
          omega
    · left
      unfold layAt at h ⊢
      rcases Nat.lt_or_gt_of_ne h1 with h2 | h2
      · rw [List.getElem?_append_left h2] at h ⊢
        exact h
      · rw [List.getElem?_eq_none (by simp; omega)] at h
        cases h

/-- The device of a ring: nothing is there but what is laid; all that is laid is there, or waits. -/
structure DevK (sz n : Nat) (z : List Nat) (segs : List (List It)) (L : List (List Nat)) (W : List (Nat × List Nat)) : Prop where
  len : L.length = n
  l64 : ∀ x ∈ L, x.length = 64
  lt : ∀ q ∈ W, q.1 < n
  lis : ∀ p y, L[p]? = some y → y = z ∨ layAt sz segs p = some y
  wis : ∀ q ∈ W, layAt sz segs q.1 = some q.2
  all : ∀ p y, layAt sz segs p = some y → L[p]? = some y ∨ (p, y) ∈ W
section
variable {sz n : Nat} {z : List Nat} {segs segs' : List (List It)} {L : List (List Nat)} {W N : List (Nat × List Nat)}
theorem DevK.hW (h : DevK sz n z segs L W) : ∀ p ∈ W, p.1 < L.length ∧ p.2.length = 64 := fun p hp => ⟨by rw [h.len]; exact h.lt p hp, (layAt_64 (h.wis p hp)).1⟩
theorem DevK.put (h : DevK sz n z segs L W) (h1 : ∀ p y, layAt sz segs p = some y → layAt sz segs' p = some y) (h2 : ∀ q ∈ N, layAt sz segs' q.1 = some q.2) (h3 : ∀ p y, layAt sz segs' p = some y → layAt sz segs p = some y ∨ (p, y) ∈ N) (h4 : ∀ q ∈ N, q.1 < n) : DevK sz n z segs' L (W ++ N) := by
  refine ⟨h.len, h.l64, ?_, fun p y hp => (h.lis p y hp).imp id (h1 p y), ?_, ?_⟩
  · intro q hq
    rcases List.mem_append.1 hq with hq | hq
    · exact h.lt q hq
    · exact h4 q hq
  · intro q hq
    rcases List.mem_append.1 hq with hq | hq
    · exact h1 _ _ (h.wis q hq)
    · exact h2 q hq
  · intro p y hp
    rcases h3 p y hp with hp | hp
    · exact (h.all p y hp).imp id (fun h => List.mem_append_left _ h)
    · exact .inr (List.mem_append_right _ hp)
theorem DevK.nil (h : DevK sz n z segs L W) : DevK sz n z (segs ++ [[]]) L W := by
  refine ⟨h.len, h.l64, h.lt, fun p y hp => ?_, fun q hq => ?_, fun p y hp => ?_⟩
  · rw [layAt_nil]; exact h.lis p y hp
  · rw [layAt_nil]; exact h.wis q hq
  · rw [layAt_nil] at hp; exact h.all p y hp
/-- Behind a crash, of which the first ones that waited are kept as kf says: nothing is there but what was laid; what was there stays. -/
theorem DevK.laid (h : DevK sz n z segs L W) (kf : Nat → Bool) : (laidL kf W L W.length).length = n ∧ (∀ x ∈ laidL kf W L W.length, x.length = 64) ∧ (∀ (p : Nat) (y : List Nat), (laidL kf W L W.length)[p]? = some y → y = z ∨ layAt sz segs p = some y) ∧
    (∀ (p : Nat) (y : List Nat), layAt sz segs p = some y → L[p]? = some y ∨ (∃ i : Nat, W[i]? = some (p, y) ∧ kf i = true) → (laidL kf W L W.length)[p]? = some y) := by
  refine ⟨by rw [laidL_length, h.len], laidL_64 h.l64 h.hW _, ?_, ?_⟩
  · intro p y hp
    rcases laidL_some _ hp with h1 | ⟨i, _, h1, _⟩
    · exact h.lis p y h1
    · exact .inr (h.wis _ (List.mem_of_getElem? h1))
  · intro p y hl hp
    have hpn : p < L.length := by
      rcases hp with h1 | ⟨i, h1, _⟩
      · rcases Nat.lt_or_ge p L.length with h2 | h2
        · exact h2
        · rw [List.getElem?_eq_none h2] at h1; cases h1
      · exact (h.hW _ (List.mem_of_getElem? h1)).1
    refine laidL_one hpn (fun j x hj => ?_) _ ?_
    · have := h.wis _ (List.mem_of_getElem? hj)
      rw [hl] at this
      exact (Option.some.inj this).symm
    · rcases hp with h1 | ⟨i, h1, h2⟩
      · exact .inr h1
      · refine .inl ⟨i, ?_, h1, h2⟩
        rcases Nat.lt_or_ge i W.length with h3 | h3
        · exact h3
        · rw [List.getElem?_eq_none h3] at h1; cases h1
theorem DevK.flush (h : DevK sz n z segs L W) : DevK sz n z segs (laidL (fun _ => true) W L W.length) [] ∧ ∀ p y, layAt sz segs p = some y → (laidL (fun _ => true) W L W.length)[p]? = some y := by
  obtain ⟨h1, h2, h3, h4⟩ := h.laid (fun _ => true)
  have h5 : ∀ p y, layAt sz segs p = some y → (laidL (fun _ => true) W L W.length)[p]? = some y := fun p y hp => h4 p y hp (by
    rcases h.all p y hp with h6 | h6
    · exact .inl h6
    · obtain ⟨i, hi⟩ := List.mem_iff_getElem?.1 h6
      exact .inr ⟨i, hi, rfl⟩)
  exact ⟨⟨h1, h2, by simp, h3, by simp, fun p y hp => .inl (h5 p y hp)⟩, h5⟩
end
end Go.Proofs.Ytbbhchmdggfncaa


/-
  entries$1, of package ring: the sequence of a segment's entries.
-/
namespace Go.Proofs.Ytbbhchmdggfncaa
open Go.RowKit Go.Shelf
set_option linter.unusedSimpArgs false
set_option linter.unusedVariables false
set_option maxRecDepth 100000
attribute [local go_sem] Oper.semAt_some

/-- What the sequence reads. -/
def enX (b1 b2 b3 b4 : Nat) (v : Value) (k : Nat) : Prop := k = b1 ∨ k = b2 ∨ k = b3 ∨ k = b4 ∨ vX v k

section
variable {n : Nat} {P : Program} {ops : Array Oper} {Q : Exit → Act → World → Prop} {a : Act} {w : World} {rest : List Oper} {dst : Option Tmp} {ty : TypeId} {pos : String} {aft : Array Edge} {x y z u : Operand} {ts : Array TypeId} {gd : Option (Nat × Bool)}
theorem stopi_loadG {F : Fence} (t : TypeId) (h : Hid (wpListIn F n P ops Q (⟨dst, .load t x, ty, pos, aft, gd⟩ :: rest) a w)) : wpListIn F n P ops Q (⟨dst, .load t x, ty, pos, aft, gd⟩ :: rest) a w := h.out
theorem stopi_callF {F : Fence} (g : Nat) (h : Hid (wpListIn F n P ops Q (⟨dst, .call { callee := .value (.func g), args := #[x, y, z], argTypes := ts }, ty, pos, aft, gd⟩ :: rest) a w)) : wpListIn F n P ops Q (⟨dst, .call { callee := .value (.func g), args := #[x, y, z], argTypes := ts }, ty, pos, aft, gd⟩ :: rest) a w := h.out
/-- An operation that is wanted, guarded or not. -/
theorem ai_runG {o : Oper} {v : Value} {w' : World} (hw : Region.wanted o (yielded ops a.tmps) = true) (hdef : ∀ c, o.op ≠ .defer c) (hrun : (execOp a.eval o).run P w = .ok (.value v) w')
    (h : wpListIn Fence.wide n P ops Q rest (a.put o.dst v) w') : wpListIn Fence.wide n P ops Q (o :: rest) a w := by
  refine wpListIn_step fun K hK => ?_
  rw [if_pos hw]
  refine ⟨fun _ _ => trivial, ?_⟩
  rw [Oper.semAt_eq _ _ _ hdef, hrun]
  exact hK _ _ h
theorem ai_loadG {t : TypeId} {b off m : Nat} {L M : List Value} {e : TypeId} (hw : Region.wanted ⟨dst, .load t x, ty, pos, aft, gd⟩ (yielded ops a.tmps) = true) (ht : aggSize P t m) (hx : a.eval x = .pointer (some ⟨b, off, none⟩)) (hb : Blk w b L e) (hl : off + m ≤ L.length) (hM : (L.drop off).take m = M)
    (h : wpListIn Fence.wide n P ops Q rest (a.put dst (.agg M.toArray)) w) : wpListIn Fence.wide n P ops Q (⟨dst, .load t x, ty, pos, aft, gd⟩ :: rest) a w := by
  subst hM
  exact ai_runG hw (fun _ => by simp) (run_load_agg ht hx hb hl) h
theorem run_cF3 (ρ : Operand → Value) {gf : Nat} {vx vy vz : Value} (hu : ρ u = .func (.func gf) #[] #[]) (hx : ρ x = vx) (hy : ρ y = vy) (hz : ρ z = vz) (eg : ∀ args w, (callFunc gf args).run P w = .ok (.enter gf args) w) :
    (execOp ρ ⟨dst, .call { callee := .value u, args := #[x, y, z], argTypes := ts }, ty, pos, aft, gd⟩).run P w = .ok (.enter gf #[vx, vy, vz]) w := by
  simp [execOp, resolve, invoke, hu, hx, hy, hz, go_sem, eg]
/-- A call of a function with three arguments, guarded or not. -/
theorem ai_call3 {d gf : Nat} {vx vy vz : Value} {R : Ending → World → Prop} (hw : Region.wanted ⟨some d, .call { callee := .value u, args := #[x, y, z], argTypes := ts }, ty, pos, aft, gd⟩ (yielded ops a.tmps) = true) (hu : a.eval u = .func (.func gf) #[] #[]) (hx : a.eval x = vx) (hy : a.eval y = vy) (hz : a.eval z = vz) (eg : ∀ args w, (callFunc gf args).run P w = .ok (.enter gf args) w) (hc : Calls P gf #[vx, vy, vz] w R)
    (h : ∀ e w', R e w' → ∃ v, e = .returned v ∧ wpListIn Fence.wide n P ops Q rest (a.put (some d) v) w') :
    wpListIn Fence.wide n P ops Q (⟨some d, .call { callee := .value u, args := #[x, y, z], argTypes := ts }, ty, pos, aft, gd⟩ :: rest) a w := by
  refine wpListIn_step fun K hK => ?_
  rw [if_pos hw]
  refine ⟨fun _ _ => trivial, ?_⟩
  rw [Oper.semAt_eq _ _ _ (fun _ => by simp)]
  rw [run_cF3 a.eval hu hx hy hz eg]
  refine ⟨fun e => (by cases e), callsIn_wide.2 (hc.mono ?_)⟩
  rintro e w' hR
  obtain ⟨v, rfl, h2⟩ := h e w' hR
  exact hK _ _ h2
end
section
variable {w : World} {dst : Option Tmp} {ty : TypeId} {pos : String} {aft : Array Edge} {x y : Operand} {gd : Option (Nat × Bool)} {ρ : Operand → Value}
theorem r_fld58 {b : Nat} (o : Nat) (ho : o < 4) (hx : ρ x = .pointer (some ⟨b, 0, none⟩)) : (execOp ρ ⟨dst, .fieldAddr 58 x o, ty, pos, aft, gd⟩).run Try.prog w = .ok (.value (.pointer (some ⟨b, o, none⟩))) w := by
  match o, ho with
  | 0, _ => go_simp
  | 1, _ => go_simp
  | 2, _ => go_simp
  | 3, _ => go_simp
theorem r_addi {i j s : Int} (hx : ρ x = .int .i64 i) (hy : ρ y = .int .i64 j) (h : IntKind.i64.wrap (i + j) = s) : (execOp ρ ⟨dst, .binOp .add 3 x y 3, ty, pos, aft, gd⟩).run Try.prog w = .ok (.value (.int .i64 s)) w := by
  subst h
  go_simp
end
theorem RcOwn.lt {N : Nat} {w : World} {y : Rv} (h : RcOwn N w y) (k : Nat) (hk : rvX y k) : k < w.heap.size := by
  rcases hk with hk | ⟨z, hz, hk⟩
  · rcases ownsRow_blk h.1.1 with ⟨e, _⟩ | ⟨g, cap, C, e, hb, _⟩
    · rw [e] at hk
      simp [Value.ownBlock] at hk
    · rw [e] at hk
      simp only [Value.ownBlock, Option.some.injEq] at hk
      exact hk ▸ hb.lt
  · rcases ownsRow_blk (h.1.2 z hz).1 with ⟨e, _⟩ | ⟨g, cap, C, e, hb, _⟩
    · rw [e] at hk
      simp [Value.ownBlock] at hk
    · rw [e] at hk
      simp only [Value.ownBlock, Option.some.injEq] at hk
      exact hk ▸ hb.lt

set_option maxHeartbeats 8000000 in
theorem entries1_at {B : List Nat} {b1 b2 b3 b4 size : Nat} {v : Value} {lsn e0 e1 : Int} {W : World} (h1 : Blk W b1 [.int .i64 lsn] 3) (h2 : Blk W b2 [.int .i64 e0, .int .i64 e1] 56) (h3 : Blk W b3 [.int .i64 size] 3) (h4 : Blk W b4 [v] 22) (hv : Src W v B) (hB : B.length = 64 * size) (hz : 0 < size ∧ size ≤ 15000) (hl : 0 ≤ lsn ∧ lsn ≤ 4611686018427300000) :
    FSeqAt Try.prog (.func (.func 48) #[] #[.pointer (some ⟨b1, 0, none⟩), .pointer (some ⟨b2, 0, none⟩), .pointer (some ⟨b3, 0, none⟩), .pointer (some ⟨b4, 0, none⟩)]) EEn (walkB size e1 B (size + 1) (lsn.toNat % size) lsn e0) (enX b1 b2 b3 b4 v) (fun _ => False) (fun _ _ _ => True) W := by
  intro tv J Jx F0 htv hJ hJx hF0 ht h0
  obtain ⟨i58, hi58, hz58, hs58, hb58⟩ := info_parts Try.info58
  have Hi58 := hide hi58
  have Hz58 := hide hz58
  have HJ := hide hJ
  have HT := hide ht
  have H0 := hide h0
  have HF0 := hide hF0
  have HB1 := hide h1
  have HB2 := hide h2
  have HB3 := hide h3
  have HB4 := hide h4
  have HV := hide hv
  have HL := hide hB
  have hlt1 := h1.lt
  have hlt2 := h2.lt
  have hlt3 := h3.lt
  have hlt4 := h4.lt
  have c1 : W.cell? ⟨b1, 0, none⟩ = some (.int .i64 lsn) := h1.cell 0
  have c2 : W.cell? ⟨b2, 0, none⟩ = some (.int .i64 e0) := h2.cell 0
  have c3 : W.cell? ⟨b3, 0, none⟩ = some (.int .i64 size) := h3.cell 0
  obtain ⟨xs, hxs⟩ : ∃ xs, xs = walkB size e1 B (size + 1) (lsn.toNat % size) lsn e0 := ⟨_, rfl⟩
  rw [← hxs] at HT ⊢
  have Hxs := hide hxs
  clear hJ hJx ht h0 hF0 h1 h2 h3 h4 hv hB hxs hi58 hz58 hs58 hb58
  refine .inl ⟨_, _, rfl, enters_of Try.func48 (by kernel_rfl) rfl, ?_⟩
  show Calls Try.prog 48 #[tv, .pointer (some ⟨b1, 0, none⟩), .pointer (some ⟨b2, 0, none⟩), .pointer (some ⟨b3, 0, none⟩), .pointer (some ⟨b4, 0, none⟩)] W _
  refine (callsIn_wide (n := 4)).1 (callsIn_of_wp Try.func48 rfl trivial ?_ rfl)
  simp only [Try.ntmps48, List.size_toArray, List.length_cons, List.length_nil, Nat.reduceAdd, Nat.reduceSub, Array.replicate_succ, Array.replicate_zero, List.push_toArray, List.append_toArray, List.nil_append, List.cons_append]
  gi_wp2
  refine region_I 99 Try.mixed ?_
  intro w1 hk1 hh1
  refine ⟨fun U => Blk U b1 [.int .i64 lsn] 3 ∧ Blk U b2 [.int .i64 e0, .int .i64 e1] 56, ?_⟩
  have hS1 : Blk w1 b1 [.int .i64 lsn] 3 ∧ Blk w1 b2 [.int .i64 e0, .int .i64 e1] 56 := ⟨hk1.blk HB1.out (fun h => h), hk1.blk HB2.out (fun h => h)⟩
  refine tkI 0 11 (v := .int .i64 lsn) hS1 rfl rfl (by kernel_rfl) (by kernel_rfl) (by kernel_rfl) (by kernel_rfl) rfl (fun _ _ _ h => h) (fun U hU => r_ld3 (b := b1) (o := 0) rfl (hU.1.cell 0)) ?_
  refine tkI 1 12 (v := .pointer (some ⟨b2, 0, none⟩)) hS1 rfl rfl (by kernel_rfl) (by kernel_rfl) (by kernel_rfl) (by kernel_rfl) rfl (fun _ _ _ h => h) (fun U hU => by simp [execOp, go_sem, Act.eval]) ?_
  refine tkI 2 13 (v := .int .i64 e0) hS1 rfl rfl (by kernel_rfl) (by kernel_rfl) (by kernel_rfl) (by kernel_rfl) rfl (fun _ _ _ h => h) (fun U hU => r_ld3 (b := b2) (o := 0) rfl (hU.2.cell 0)) ?_
  refine tkI 3 6 (v := .int .i64 lsn) hS1 rfl rfl (by kernel_rfl) (by kernel_rfl) (by kernel_rfl) (by kernel_rfl) rfl (fun _ _ _ h => h) (fun U hU => r_assign rfl) ?_
  refine tkI 4 7 (v := .int .i64 e0) hS1 rfl rfl (by kernel_rfl) (by kernel_rfl) (by kernel_rfl) (by kernel_rfl) rfl (fun _ _ _ h => h) (fun U hU => r_assign rfl) ?_
  refine doneI (by kernel_rfl) ?_
  simp only [put_lit, List.set_cons_succ, List.set_cons_zero]
  clear c1 c2 c3
  have c1 : w1.cell? ⟨b1, 0, none⟩ = some (.int .i64 lsn) := hS1.1.cell 0
  have c3 : w1.cell? ⟨b3, 0, none⟩ = some (.int .i64 size) := (hk1.blk HB3.out (fun h => h)).cell 0
  clear hS1 hh1
  obtain ⟨s0, hs0⟩ : ∃ s0, lsn.toNat % size = s0 := ⟨_, rfl⟩
  have hs0l : s0 < size := by rw [← hs0]; exact Nat.mod_lt _ hz.1
  have hrem : lsn.tmod (size : Int) = (s0 : Int) := by
    rw [Int.tmod_eq_emod_of_nonneg hl.1, ← hs0, Int.natCast_emod, Int.toNat_of_nonneg hl.1]
  have hze : ¬ ((size : Int) = 0) := by omega
  gi_wp2
  gi_loopw [6, 7, 8] (fun pv lv sv wr => ∃ (k sector : Nat) (place least : Int) (pre : List En) (F : NSet), pv = .int .i64 place ∧ lv = .int .i64 least ∧ sv = .int .i64 sector ∧ size < k + sector ∧ sector ≤ 100000 ∧ place = lsn + sector - s0 ∧ s0 ≤ sector ∧ Hid (xs = pre ++ walkB size e1 B k sector place least) ∧ Hid (J pre F wr) ∧ Hid (∀ k, F k → F0 k ∨ W.heap.size ≤ k) ∧ Hid (Kept F0 W wr))
    (fun pv lv sv _ => size - (intOf sv).toNat)
  case atStart => exact ⟨size + 1, s0, lsn, e0, [], F0, rfl, rfl, rfl, by omega, by omega, by omega, Nat.le_refl _, hide (by rw [Hxs.out, hs0]; rfl), hide ((HJ.out _).none H0.out hk1), hide (fun k h => .inl h), hide (hk1.mono (fun _ _ h => h.elim))⟩
  case round =>
    obtain ⟨k, sector, place, least, pre, F, rfl, rfl, rfl, hk, hsc, hpl, hs0s, hx, hJk, hFk, hKk⟩ := hrel
    have hb1 := hKk.out.blk HB1.out (fun h => (HF0.out b1 h).1 (.inl rfl))
    have hb2 := hKk.out.blk HB2.out (fun h => (HF0.out b2 h).1 (.inr (.inl rfl)))
    have hb3 := hKk.out.blk HB3.out (fun h => (HF0.out b3 h).1 (.inr (.inr (.inl rfl))))
    have hb4 := hKk.out.blk HB4.out (fun h => (HF0.out b4 h).1 (.inr (.inr (.inr (.inl rfl)))))
    have HB2r := hide hb2
    have HB3r := hide hb3
    have c3 : wr.cell? ⟨b3, 0, none⟩ = some (.int .i64 size) := hb3.cell 0
    have c4 : wr.cell? ⟨b4, 0, none⟩ = some v := hb4.cell 0
    clear hb1 hb2 hb3 hb4 hrem c1 hk1
    by_cases hlt : sector < size
    · have hlti : (sector : Int) < (size : Int) := by omega
      obtain ⟨k, rfl⟩ : ∃ j, k = j + 1 := ⟨k - 1, by omega⟩
      obtain ⟨s6, hs6⟩ : ∃ s6, s6 = 64 * sector := ⟨_, rfl⟩
      have hw : IntKind.i64.wrap ((sector : Int) * 64) = (s6 : Int) := by rw [IntKind.wrap_i64]; omega
      have Hs6 := hide hs6
      have hv0 := HV.out
      obtain ⟨bo, cap, rfl, hcap, -, hsrc, -⟩ := hv0
      obtain ⟨g, off, rfl, -⟩ := hsrc (by have := HL.out; omega)
      obtain ⟨len, hlen⟩ : ∃ len, len = B.length := ⟨_, rfl⟩
      have Hlen := hide hlen
      have Hl64 : Hid (len = 64 * size) := hide (by rw [hlen, HL.out])
      rw [← hlen] at hcap c4
      clear hsrc hlen hs6
      gi_wp2_with (with_reducible refine stopi_slice 22 ?_)
      refine hide ?_
      refine wpListIn_run rfl rfl (fun _ => by simp) (r_lo22 (b := g) (off := off) (len := len) (cap := cap) (s6) (k := .i64) rfl rfl (by have := Hs6.out; have := Hl64.out; omega) (by have := Hs6.out; have := Hl64.out; omega)) ?_
      have hgX : enX b1 b2 b3 b4 (.slice (some ⟨g, off, none⟩) B.length cap) g := .inr (.inr (.inr (.inr ⟨off, _, _, rfl⟩)))
      have hsd : Src wr (.slice (some ⟨g, off + s6, none⟩) (len - s6) (cap - s6)) (B.drop (s6)) := by
        have hv1 := HV.out.keptC hKk.out (fun j _ hj => fun h => by
          obtain ⟨o, _, _, e⟩ := hj
          cases e
          exact (HF0.out g h).1 hgX)
        obtain ⟨bo', cap', e, k1, k2, k3, k4⟩ := hv1
        cases e
        obtain ⟨sb, so, e, hcs⟩ := k3 (by have := HL.out; omega)
        cases e
        have hdl : (B.drop (s6)).length = len - s6 := by rw [List.length_drop, ← Hlen.out]
        refine ⟨_, _, by rw [hdl], by rw [hdl]; have := Hlen.out; omega, fun y hy => k2 y (List.mem_of_mem_drop hy), fun _ => ⟨g, off + s6, rfl, ?_⟩, fun h => by cases h⟩
        have := hcs.part (s6) (len - s6)
        rw [← BV_drop, ← BV_take, List.take_of_length_le (by rw [hdl]; exact Nat.le_refl _)] at this
        exact this
      have HST := hide (stands_at wr _ _ place hsd (by rw [List.length_drop, ← Hlen.out]; have := Hs6.out; have := Hl64.out; omega) (by rw [List.length_drop, ← Hlen.out]; have := Hs6.out; have := Hl64.out; omega) (by omega))
      have Hpl := hide hpl
      have Hpb : Hid (0 ≤ place ∧ place ≤ 4611686018427387903) := hide (by omega)
      clear hsd hw hpl
      gi_wp2_with fail
      rename_i KK hKK
      refine ⟨by simp [Fence.wide], callsIn_wide.2 (HST.out.mono ?_)⟩
      rintro e w2 ⟨xl, xe, xn, y, ok, rfl, hown, hst, hk2⟩
      refine hKK _ _ ?_
      clear hKK KK HST c4
      obtain ⟨yk, yt, ym, ⟨ya, yn, yc⟩, yw⟩ := y
      have HOwn := hide hown
      have HSt := hide hst
      have HK2 := hide hk2
      clear hown hst hk2
      simp only [enAgg]
      try simp only [put_lit, List.set_cons_succ, List.set_cons_zero]
      gi_wp2_with (first
        | ((with_reducible refine ai_alloc (t := 58) Hi58.out Hz58.out ?_); intro w3 hb3 hk3 hz3; have Hz3 := hide hz3; clear hz3)
        | (with_reducible refine stopi_store 58 ?_))
      refine hide ?_
      refine ai_store (x := .tmp 9) (M := [.int .i64 xl, .int .i64 xe, .int .i64 xn, .int .i64 yk, .int .i64 yt, .int .i64 ym, .slice ya yn yc]) Try.agg58 rfl rfl rfl (by simp [Value.oneCell']) hb3 (by simp [Value.cells]) ?_
      intro w4 hb4 hk4 hz4
      rw [put_whole _ _ (by simp [Value.cells])] at hb4
      have hk24 : Kept (fun _ => False) w2 w4 := hk3.trans hk4 (fun i hi h => by omega)
      obtain ⟨b9, hb9⟩ : ∃ b, b = w2.heap.size := ⟨_, rfl⟩
      rw [← hb9] at hb4 ⊢
      have H9 := hide hb4
      have H9w : Hid (wr.heap.size ≤ b9) := hide (by have := HK2.out.size; omega)
      have HG9 : Hid (¬ rvX ⟨yk, yt, ym, ⟨ya, yn, yc⟩, yw⟩ b9) := hide (fun h => by have := HOwn.out.lt b9 h; omega)
      have HOwn4 := hide (HOwn.out.kept hk24)
      have HK4 := hide (HK2.out.trans hk24 (fun _ _ h => h))
      have HB24 := hide (HK4.out.blk HB2r.out (fun h => h))
      have HB34 := hide (HK4.out.blk HB3r.out (fun h => h))
      clear hb3 hb4 hk3 hk4 hz4 hk24 hb9 Hz3 HOwn HK2 c3
      have c3 : w4.cell? ⟨b3, 0, none⟩ = some (.int .i64 size) := HB34.out.cell 0
      have d1 : w4.cell? ⟨b9, 1, none⟩ = some (.int .i64 xe) := H9.out.cell 1
      have e1c : w4.cell? ⟨b2, 1, none⟩ = some (.int .i64 e1) := HB24.out.cell 1
      try simp only [put_lit, put_none, List.set_cons_succ, List.set_cons_zero]
      rcases HSt.out with ⟨rfl, rfl, hs⟩ | ⟨rfl, hs⟩
      · obtain ⟨nn, rfl⟩ : ∃ q : Nat, xn = (q : Int) := ⟨xn.toNat, by have := (stands_num Hpb.out hs).1; omega⟩
        have hnn := stands_num Hpb.out hs
        have HS := hide hs
        clear hs HSt
        gi_wp2_with (with_reducible refine stopi_loadG 58 ?_)
        refine hide ?_
        refine ai_loadG (off := 0) (M := [.int .i64 xl, .int .i64 xe, .int .i64 nn, .int .i64 yk, .int .i64 yt, .int .i64 ym, .slice ya yn yc]) rfl Try.agg58 rfl H9.out (by simp) (by simp) ?_
        try simp only [put_lit, put_none, List.set_cons_succ, List.set_cons_zero]
        gi_wp2_with (with_reducible refine stopi_callF 50 ?_)
        refine hide ?_
        obtain ⟨bel, hbel⟩ : ∃ b, belN yk nn sector size = b := ⟨_, rfl⟩
        have HBel := hide hbel
        have HC := hide (belongs_at w4 xl xe yk yt ym ⟨ya, yn, yc⟩ nn sector size (by omega) (by omega) bel hbel)
        clear hbel
        refine ai_call3 (gf := 50) rfl rfl rfl rfl rfl (enters_of Try.func50 (by kernel_rfl) rfl) HC.out ?_
        rintro e w5 ⟨rfl, hk45⟩
        refine ⟨_, rfl, ?_⟩
        clear HC c3 d1 e1c
        have H95 := hide (hk45.blk H9.out (fun h => h))
        have HK5 := hide (HK4.out.trans hk45 (fun _ _ h => h))
        have HOwn5 := hide (HOwn4.out.kept hk45)
        have d1 : w5.cell? ⟨b9, 1, none⟩ = some (.int .i64 xe) := H95.out.cell 1
        have e1c : w5.cell? ⟨b2, 1, none⟩ = some (.int .i64 e1) := (hk45.blk HB24.out (fun h => h)).cell 1
        clear hk45 HK4 HOwn4 H9 HB24 HB34
        try simp only [put_lit, put_none, List.set_cons_succ, List.set_cons_zero]
        cases bel with
        | false =>
          have Hend : Hid (xs = pre) := hide (by rw [hx.out, walkB_no (by rw [← Hs6.out]; exact HS.out) (fun h => by have := h.1; simp only [Int.toNat_natCast] at this; rw [show (Rv.rc ⟨yk, yt, ym, ⟨ya, yn, yc⟩, yw⟩).kind = yk from rfl, HBel.out] at this; cases this), List.append_nil])
          gi_wp2
          rename_i KK hKK
          refine ⟨by simp [Fence.wide], hKK _ _ ?_⟩
          clear hKK KK
          try simp only [put_lit, put_none, List.set_cons_succ, List.set_cons_zero]
          gi_wp2
          refine bodyPost_ret (results_none rfl _ _ _) rfl ?_
          refine ⟨⟨_, rfl⟩, true, (hKk.out.trans HK5.out (fun _ _ h => h.elim)).mono (fun _ _ h => .inl h), .inl ⟨rfl, F, ?_, hFk.out, trivial⟩⟩
          rw [Hend.out]
          exact (HJ.out _).none hJk.out HK5.out
        | true =>
          gi_wp2_with (with_reducible refine stopi_callF 20 ?_)
          refine hide ?_
          obtain ⟨wi, hwi⟩ : ∃ b, decide (least ≤ xe ∧ xe ≤ e1) = b := ⟨_, rfl⟩
          have HWi := hide hwi
          have HC := hide (rgwithin_at w5 xe least e1 wi hwi)
          clear hwi
          refine ai_call3 (gf := 20) rfl rfl rfl rfl rfl (enters_of Try.func20 (by kernel_rfl) rfl) HC.out ?_
          rintro e w6 ⟨rfl, rfl⟩
          refine ⟨_, rfl, ?_⟩
          clear HC d1 e1c
          try simp only [put_lit, put_none, List.set_cons_succ, List.set_cons_zero]
          cases wi with
          | false =>
            have Hend : Hid (xs = pre) := hide (by rw [hx.out, walkB_no (by rw [← Hs6.out]; exact HS.out) (fun h => by have := HWi.out; simp at this; have := h.2; omega), List.append_nil])
            gi_wp2
            refine bodyPost_ret (results_none rfl _ _ _) rfl ?_
            refine ⟨⟨_, rfl⟩, true, (hKk.out.trans HK5.out (fun _ _ h => h.elim)).mono (fun _ _ h => .inl h), .inl ⟨rfl, F, ?_, hFk.out, trivial⟩⟩
            rw [Hend.out]
            exact (HJ.out _).none hJk.out HK5.out
          | true =>
            have Hlow : Hid (least ≤ xe ∧ xe ≤ e1) := hide (by have := HWi.out; simpa using this)
            gi_wp2_with (first
              | (with_reducible refine stopi_loadG 58 ?_)
              | fail)
            refine hide ?_
            have Hwk : Hid (xs = pre ++ [⟨xl, xe, nn, Rv.rc ⟨yk, yt, ym, ⟨ya, yn, yc⟩, yw⟩⟩] ++ (if yk = 2 then [] else walkB size e1 B k (sector + nn) (xl + nn) xe)) := hide (by
              rw [hx.out, walkB_some hlt (by rw [← Hs6.out]; exact HS.out) (by simp only [Int.toNat_natCast]; exact HBel.out) Hlow.out, List.append_assoc]
              rfl)
            have HFlt : Hid (∀ k, F k → k < wr.heap.size) := hide ((HJ.out pre).lt F wr hJk.out)
            have Hyc := hide (HT.out pre ⟨xl, xe, nn, Rv.rc ⟨yk, yt, ym, ⟨ya, yn, yc⟩, yw⟩⟩ (if yk = 2 then [] else walkB size e1 B k (sector + nn) (xl + nn) xe) F (rvX ⟨yk, yt, ym, ⟨ya, yn, yc⟩, yw⟩) (enAgg xl xe nn yk yt ym ⟨ya, yn, yc⟩) w5 (by rw [Hwk.out, List.append_assoc]; rfl) ((HJ.out _).none hJk.out HK5.out) (by have := HK5.out.size; have := hKk.out.size; omega) hFk.out (HOwn5.out.enc rfl)
              (fun q hq => ⟨fun hF => by have := HFlt.out q hF; have := HOwn5.out.ge q hq; omega, by have := HOwn5.out.ge q hq; have := hKk.out.size; omega, HOwn5.out.lt q hq⟩))
            have H9G : Hid (¬ rvX ⟨yk, yt, ym, ⟨ya, yn, yc⟩, yw⟩ b9 ∧ ¬ F b9) := hide ⟨HG9.out, fun h => by have := HFlt.out b9 h; have := H9w.out; omega⟩
            refine ai_loadG (off := 0) (M := [.int .i64 xl, .int .i64 xe, .int .i64 nn, .int .i64 yk, .int .i64 yt, .int .i64 ym, .slice ya yn yc]) rfl Try.agg58 rfl H95.out (by simp) (by simp) ?_
            try simp only [put_lit, put_none, List.set_cons_succ, List.set_cons_zero]
            gi_wp2_with (with_reducible refine stopi_val1 ?_)
            refine hide ?_
            try simp only [put_lit, put_none, List.set_cons_succ, List.set_cons_zero]
            refine ai_yc1 (yv := tv) (vy := enAgg xl xe nn yk yt ym ⟨ya, yn, yc⟩) rfl rfl rfl Hyc.out ?_
            rintro e w7 ⟨F', hcase, hk7, hF'⟩
            have H97 := hide (hk7.blk H95.out (fun h => h.elim H9G.out.2 H9G.out.1))
            have d1 : w7.cell? ⟨b9, 1, none⟩ = some (.int .i64 xe) := H97.out.cell 1
            have d2 : w7.cell? ⟨b9, 2, none⟩ = some (.int .i64 nn) := H97.out.cell 2
            have d3 : w7.cell? ⟨b9, 3, none⟩ = some (.int .i64 yk) := H97.out.cell 3
            have HK7 : Hid (Kept F0 W w7) := hide ((hKk.out.trans HK5.out (fun _ _ h => h.elim)).trans hk7 (fun j hj h => by
              rcases h with h | h
              · exact (hFk.out j h).elim (fun h => h) (fun h => by omega)
              · have := HOwn5.out.ge j h; have := hKk.out.size; omega))
            have HF7 : Hid (∀ q, F' q → F0 q ∨ W.heap.size ≤ q) := hide (fun q h => by
              have h1 := hKk.out.size
              have h2 := HK5.out.size
              rcases hF' q h with h | h | h
              · exact hFk.out q h
              · exact .inr (by have := HOwn5.out.ge q h; omega)
              · exact .inr (by omega))
            clear hk7 hF' Hyc H95 H9G HFlt
            rcases hcase with ⟨rfl, hJ7⟩ | ⟨rfl, hJ7⟩
            · have HJ7 := hide hJ7
              clear hJ7
              refine ⟨_, rfl, ?_⟩
              try simp only [put_lit, put_none, List.set_cons_succ, List.set_cons_zero]
              by_cases hk2 : yk = 2
              · subst hk2
                have Hend : Hid (xs = pre ++ [⟨xl, xe, nn, Rv.rc ⟨2, yt, ym, ⟨ya, yn, yc⟩, yw⟩⟩]) := hide (by rw [Hwk.out, if_pos rfl, List.append_nil])
                gi_wp2
                refine bodyPost_ret (results_none rfl _ _ _) rfl ?_
                refine ⟨⟨_, rfl⟩, true, HK7.out.mono (fun _ _ h => .inl h), .inl ⟨rfl, F', ?_, HF7.out, trivial⟩⟩
                rw [Hend.out]
                exact HJ7.out
              · have Hrest : Hid (xs = (pre ++ [⟨xl, xe, nn, Rv.rc ⟨yk, yt, ym, ⟨ya, yn, yc⟩, yw⟩⟩]) ++ walkB size e1 B k (sector + nn) (xl + nn) xe) := hide (by rw [Hwk.out, if_neg hk2])
                gi_wp2
                have hk7s : 1 ≤ (nn : Int) ∧ (nn : Int) ≤ 65536 := hnn
                have hpw : IntKind.i64.wrap (xl + (nn : Int)) = xl + (nn : Int) := by have := Hpb.out; rw [IntKind.wrap_i64]; omega
                obtain ⟨s2, hs2⟩ : ∃ q, q = sector + nn := ⟨_, rfl⟩
                obtain ⟨p2, hp2⟩ : ∃ q : Int, q = xl + (nn : Int) := ⟨_, rfl⟩
                replace hpw : IntKind.i64.wrap (xl + (nn : Int)) = p2 := by rw [hp2]; exact hpw
                have hsw : IntKind.i64.wrap ((sector : Int) + (nn : Int)) = (s2 : Int) := by rw [IntKind.wrap_i64]; omega
                refine region_I 99 Try.mixed ?_
                intro w8 hk8 hh8
                refine ⟨fun U => Blk U b9 [.int .i64 xl, .int .i64 xe, .int .i64 nn, .int .i64 yk, .int .i64 yt, .int .i64 ym, .slice ya yn yc] 58, ?_⟩
                have hS7 := hk8.blk H97.out (fun h => h)
                refine tkI 0 57 (v := .int .i64 xl) hS7 rfl rfl (by kernel_rfl) (by kernel_rfl) (by kernel_rfl) (by kernel_rfl) rfl (fun _ _ _ h => h) (fun U hU => r_move rfl) ?_
                simp only [put_lit, List.set_cons_succ, List.set_cons_zero]
                refine tkI 1 58 (v := .pointer (some ⟨b9, 2, none⟩)) hS7 rfl rfl (by kernel_rfl) (by kernel_rfl) (by kernel_rfl) (by kernel_rfl) rfl (fun _ _ _ h => h) (fun U hU => r_fld58 2 (by omega) rfl) ?_
                simp only [put_lit, List.set_cons_succ, List.set_cons_zero]
                refine tkI 2 59 (v := .int .i64 nn) hS7 rfl rfl (by kernel_rfl) (by kernel_rfl) (by kernel_rfl) (by kernel_rfl) rfl (fun _ _ _ h => h) (fun U hU => r_ld3 (b := b9) (o := 2) rfl (hU.cell 2)) ?_
                simp only [put_lit, List.set_cons_succ, List.set_cons_zero]
                refine tkI 3 60 (v := .int .i64 p2) hS7 rfl rfl (by kernel_rfl) (by kernel_rfl) (by kernel_rfl) (by kernel_rfl) rfl (fun _ _ _ h => h) (fun U hU => r_addi (s := p2) rfl rfl hpw) ?_
                simp only [put_lit, List.set_cons_succ, List.set_cons_zero]
                refine tkI 4 61 (v := .int .i64 sector) hS7 rfl rfl (by kernel_rfl) (by kernel_rfl) (by kernel_rfl) (by kernel_rfl) rfl (fun _ _ _ h => h) (fun U hU => r_move rfl) ?_
                simp only [put_lit, List.set_cons_succ, List.set_cons_zero]
                refine tkI 5 62 (v := .pointer (some ⟨b9, 2, none⟩)) hS7 rfl rfl (by kernel_rfl) (by kernel_rfl) (by kernel_rfl) (by kernel_rfl) rfl (fun _ _ _ h => h) (fun U hU => r_fld58 2 (by omega) rfl) ?_
                simp only [put_lit, List.set_cons_succ, List.set_cons_zero]
                refine tkI 6 63 (v := .int .i64 nn) hS7 rfl rfl (by kernel_rfl) (by kernel_rfl) (by kernel_rfl) (by kernel_rfl) rfl (fun _ _ _ h => h) (fun U hU => r_ld3 (b := b9) (o := 2) rfl (hU.cell 2)) ?_
                simp only [put_lit, List.set_cons_succ, List.set_cons_zero]
                refine tkI 7 64 (v := .int .i64 (s2 : Int)) hS7 rfl rfl (by kernel_rfl) (by kernel_rfl) (by kernel_rfl) (by kernel_rfl) rfl (fun _ _ _ h => h) (fun U hU => r_addi rfl rfl hsw) ?_
                simp only [put_lit, List.set_cons_succ, List.set_cons_zero]
                refine tkI 8 65 (v := .pointer (some ⟨b9, 1, none⟩)) hS7 rfl rfl (by kernel_rfl) (by kernel_rfl) (by kernel_rfl) (by kernel_rfl) rfl (fun _ _ _ h => h) (fun U hU => r_fld58 1 (by omega) rfl) ?_
                simp only [put_lit, List.set_cons_succ, List.set_cons_zero]
                refine tkI 9 66 (v := .int .i64 xe) hS7 rfl rfl (by kernel_rfl) (by kernel_rfl) (by kernel_rfl) (by kernel_rfl) rfl (fun _ _ _ h => h) (fun U hU => r_ld3 (b := b9) (o := 1) rfl (hU.cell 1)) ?_
                simp only [put_lit, List.set_cons_succ, List.set_cons_zero]
                refine tkI 10 6 (v := .int .i64 p2) hS7 rfl rfl (by kernel_rfl) (by kernel_rfl) (by kernel_rfl) (by kernel_rfl) rfl (fun _ _ _ h => h) (fun U hU => r_assign rfl) ?_
                simp only [put_lit, List.set_cons_succ, List.set_cons_zero]
                refine tkI 11 8 (v := .int .i64 (s2 : Int)) hS7 rfl rfl (by kernel_rfl) (by kernel_rfl) (by kernel_rfl) (by kernel_rfl) rfl (fun _ _ _ h => h) (fun U hU => r_assign rfl) ?_
                simp only [put_lit, List.set_cons_succ, List.set_cons_zero]
                refine tkI 12 7 (v := .int .i64 xe) hS7 rfl rfl (by kernel_rfl) (by kernel_rfl) (by kernel_rfl) (by kernel_rfl) rfl (fun _ _ _ h => h) (fun U hU => r_assign rfl) ?_
                refine doneI (by kernel_rfl) ?_
                simp only [put_lit, List.set_cons_succ, List.set_cons_zero]
                clear d1 d2 d3
                have HJ8 := hide ((HJ.out _).none HJ7.out hk8)
                have HK8 := hide (HK7.out.trans hk8 (fun _ _ h => h.elim))
                clear hS7 hh8 hk8 hpw hsw
                gi_wp2
                go_roundw
                case rel => exact ⟨k, s2, p2, xe, _, F', rfl, rfl, rfl, by omega, by omega, by have := Hpl.out; omega, by omega, hide (by rw [hs2, hp2]; exact Hrest.out), HJ8, HF7, HK8⟩
                case measure => simp [intOf]; omega
            · have HJ7 := hide hJ7
              clear hJ7
              refine ⟨_, rfl, ?_⟩
              try simp only [put_lit, put_none, List.set_cons_succ, List.set_cons_zero]
              gi_wp2
              refine bodyPost_ret (results_none rfl _ _ _) rfl ?_
              exact ⟨⟨_, rfl⟩, false, HK7.out.mono (fun _ _ h => .inl h), .inr ⟨rfl, _, F', ⟨_, Hwk.out⟩, HJ7.out, HF7.out, trivial⟩⟩
      · have Hend : Hid (xs = pre) := hide (by rw [hx.out, walkB_none (by rw [← Hs6.out]; exact hs), List.append_nil])
        clear hs
        gi_wp2
        rename_i KK hKK
        refine ⟨by simp [Fence.wide], hKK _ _ ?_⟩
        clear hKK KK
        try simp only [put_lit, put_none, List.set_cons_succ, List.set_cons_zero]
        gi_wp2
        rename_i KK hKK
        refine ⟨by simp [Fence.wide], hKK _ _ ?_⟩
        clear hKK KK
        try simp only [put_lit, put_none, List.set_cons_succ, List.set_cons_zero]
        gi_wp2
        refine bodyPost_ret (results_none rfl _ _ _) rfl ?_
        refine ⟨⟨_, rfl⟩, true, (hKk.out.trans HK4.out (fun _ _ h => h.elim)).mono (fun _ _ h => .inl h), .inl ⟨rfl, F, ?_, hFk.out, trivial⟩⟩
        rw [Hend.out]
        exact (HJ.out _).none hJk.out HK4.out
    · have hlti : ¬ (sector : Int) < (size : Int) := by omega
      have Hend : Hid (xs = pre) := hide (by rw [hx.out, walkB_end hlt, List.append_nil])
      gi_wp2
      go_end0
      refine ⟨⟨_, rfl⟩, true, hKk.out.mono (fun _ _ h => .inl h), .inl ⟨rfl, F, ?_, hFk.out, trivial⟩⟩
      rw [Hend.out]
      exact hJk.out
end Go.Proofs.Ytbbhchmdggfncaa
