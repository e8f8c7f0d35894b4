/-
  Sums as numbers: the rest and its steps; that one unlike byte is told.
-/
import Derived.WalkKit
namespace Go.Proofs.Ytclfklcboigifaa
set_option linter.unusedSimpArgs false
set_option linter.unusedVariables false
set_option maxRecDepth 100000

theorem xor_right_cancel {a b c : Nat} (h : a ^^^ c = b ^^^ c) : a = b := by
  have := congrArg (fun n => n ^^^ c) h
  simpa [Nat.xor_assoc] using this
theorem xor_left_cancel {a b c : Nat} (h : c ^^^ a = c ^^^ b) : a = b := by
  rw [Nat.xor_comm c a, Nat.xor_comm c b] at h
  exact xor_right_cancel h
def polyN : Nat := 3988292384
def stepN (r : Nat) : Nat := if r % 2 = 1 then (r / 2) ^^^ polyN else r / 2
def stepsN : Nat → Nat → Nat
  | 0, r => r
  | k + 1, r => stepN (stepsN k r)
def takeN (r x : Nat) : Nat := stepsN 8 (r ^^^ x)
def restN (r : Nat) (B : List Nat) : Nat := B.foldl takeN r
def joinN (was : Nat) (B : List Nat) : Nat := 4294967295 - restN (4294967295 - was) B

theorem stepN_lt {r : Nat} (h : r < 4294967296) : stepN r < 4294967296 := by
  unfold stepN
  split
  · exact Nat.xor_lt_two_pow (n := 32) (by omega) (by decide)
  · omega
theorem stepsN_lt {r : Nat} (h : r < 4294967296) : ∀ k, stepsN k r < 4294967296
  | 0 => h
  | k + 1 => stepN_lt (stepsN_lt h k)
theorem takeN_lt {r x : Nat} (h : r < 4294967296) (hx : x < 256) : takeN r x < 4294967296 :=
  stepsN_lt (Nat.xor_lt_two_pow (n := 32) h (by omega)) 8
theorem restN_lt : ∀ {B : List Nat} {r : Nat}, r < 4294967296 → (∀ x ∈ B, x < 256) → restN r B < 4294967296
  | [], _, h, _ => h
  | x :: B, r, h, hB => restN_lt (B := B) (takeN_lt h (hB x (by simp))) (fun y hy => hB y (by simp [hy]))
theorem joinN_lt (was : Nat) (B : List Nat) : joinN was B < 4294967296 := by unfold joinN; omega

theorem testBit_half {r : Nat} (h : r < 4294967296) : (r / 2).testBit 31 = false := Nat.testBit_lt_two_pow (by omega)

theorem stepN_inj {a b : Nat} (ha : a < 4294967296) (hb : b < 4294967296) (h : stepN a = stepN b) : a = b := by
  have hp : polyN.testBit 31 = true := by decide
  unfold stepN at h
  split at h <;> split at h
  · have := xor_right_cancel h
    omega
  · have := congrArg (fun n => n.testBit 31) h
    simp [Nat.testBit_xor, testBit_half ha, testBit_half hb, hp] at this
  · have := congrArg (fun n => n.testBit 31) h
    simp [Nat.testBit_xor, testBit_half ha, testBit_half hb, hp] at this
  · omega
theorem stepsN_inj {a b : Nat} (ha : a < 4294967296) (hb : b < 4294967296) : ∀ k, stepsN k a = stepsN k b → a = b
  | 0, h => h
  | k + 1, h => stepsN_inj ha hb k (stepN_inj (stepsN_lt ha k) (stepsN_lt hb k) h)
theorem takeN_inj {a b x : Nat} (ha : a < 4294967296) (hb : b < 4294967296) (hx : x < 256) (h : takeN a x = takeN b x) : a = b :=
  xor_right_cancel (stepsN_inj (Nat.xor_lt_two_pow (n := 32) ha (by omega)) (Nat.xor_lt_two_pow (n := 32) hb (by omega)) 8 h)
theorem takeN_byte {r x y : Nat} (hr : r < 4294967296) (hx : x < 256) (hy : y < 256) (h : takeN r x = takeN r y) : x = y :=
  xor_left_cancel (stepsN_inj (Nat.xor_lt_two_pow (n := 32) hr (by omega)) (Nat.xor_lt_two_pow (n := 32) hr (by omega)) 8 h)
theorem restN_inj : ∀ {B : List Nat} {a b : Nat}, a < 4294967296 → b < 4294967296 → (∀ x ∈ B, x < 256) → restN a B = restN b B → a = b
  | [], _, _, _, _, _, h => h
  | x :: B, a, b, ha, hb, hB, h => takeN_inj ha hb (hB x (by simp)) (restN_inj (B := B) (takeN_lt ha (hB x (by simp))) (takeN_lt hb (hB x (by simp))) (fun y hy => hB y (by simp [hy])) h)
theorem restN_append (r : Nat) (A B : List Nat) : restN r (A ++ B) = restN (restN r A) B := by simp [restN]
theorem joinN_join (was : Nat) (A B : List Nat) (hw : was < 4294967296) (hA : ∀ x ∈ A, x < 256) : joinN (joinN was A) B = joinN was (A ++ B) := by
  have h := restN_lt (B := A) (r := 4294967295 - was) (by omega) hA
  unfold joinN
  rw [restN_append]
  congr 2
  omega
/-- One unlike byte is told. -/
theorem joinN_told (was : Nat) (B : List Nat) (n c : Nat) (hB : ∀ x ∈ B, x < 256) (hc : c < 256) (hn : n < B.length) : joinN was (B.set n c) = joinN was B ↔ c = B[n] := by
  constructor
  · intro h
    have hB1 : ∀ x ∈ B.set n c, x < 256 := by
      intro x hx
      rcases List.mem_or_eq_of_mem_set hx with h | h
      · exact hB x h
      · omega
    have h1 := restN_lt (B := B.set n c) (r := 4294967295 - was) (by omega) hB1
    have h2 := restN_lt (B := B) (r := 4294967295 - was) (by omega) hB
    unfold joinN at h
    have h3 : restN (4294967295 - was) (B.set n c) = restN (4294967295 - was) B := by omega
    have e1 : B.set n c = B.take n ++ c :: B.drop (n + 1) := List.set_eq_take_append_cons_drop .. |>.trans (by simp [hn])
    have e2 : B = B.take n ++ B[n] :: B.drop (n + 1) := by simp
    rw [e1] at h3
    conv at h3 => rhs; rw [e2]
    rw [restN_append, restN_append] at h3
    have hr := restN_lt (B := B.take n) (r := 4294967295 - was) (by omega) (fun x hx => hB x (List.mem_of_mem_take hx))
    have hbn : B[n] < 256 := hB _ (List.getElem_mem hn)
    exact takeN_byte hr hc hbn (restN_inj (B := B.drop (n + 1)) (takeN_lt hr hc) (takeN_lt hr hbn) (fun x hx => hB x (List.mem_of_mem_drop hx)) h3)
  · rintro rfl
    rw [List.set_getElem_self]

/-- The reference's bit. -/
def bitN (r b : Nat) : Nat := if (r % 2 = 1) ↔ (b % 2 = 1) then r / 2 else (r / 2) ^^^ polyN
def bitsN (r x : Nat) : Nat → Nat
  | 0 => r
  | k + 1 => bitN (bitsN r x k) (x / 2 ^ k)
theorem bitN_lt {r b : Nat} (h : r < 4294967296) : bitN r b < 4294967296 := by
  unfold bitN
  split
  · omega
  · exact Nat.xor_lt_two_pow (n := 32) (by omega) (by decide)
theorem bitsN_lt {r x : Nat} (h : r < 4294967296) : ∀ k, bitsN r x k < 4294967296
  | 0 => h
  | k + 1 => bitN_lt (bitsN_lt h k)
theorem stepN_xor (r x : Nat) : stepN (r ^^^ x) = bitN r x ^^^ (x / 2) := by
  unfold stepN bitN
  have h1 : (r ^^^ x) % 2 = (r + x) % 2 := by
    have h0 : decide ((r ^^^ x) % 2 = 1) = (decide (r % 2 = 1) ^^ decide (x % 2 = 1)) := by rw [← Nat.testBit_zero, ← Nat.testBit_zero, ← Nat.testBit_zero, Nat.testBit_xor]
    by_cases hr : r % 2 = 1 <;> by_cases hx : x % 2 = 1 <;> simp only [hr, hx, decide_true, decide_false, Bool.xor_self, Bool.xor_false, Bool.false_xor, Bool.true_xor, Bool.not_true, decide_eq_true_eq, decide_eq_false_iff_not] at h0 <;> omega
  have h2 : (r ^^^ x) / 2 = (r / 2) ^^^ (x / 2) := Nat.xor_div_two
  rw [h1, h2]
  by_cases hr : r % 2 = 1 <;> by_cases hx : x % 2 = 1
  · rw [if_neg (by omega), if_pos (by simp [hr, hx])]
  · rw [if_pos (by omega), if_neg (by simp [hr, hx])]
    rw [Nat.xor_assoc, Nat.xor_assoc, Nat.xor_comm polyN]
  · rw [if_pos (by omega), if_neg (by simp [hr, hx])]
    rw [Nat.xor_assoc, Nat.xor_assoc, Nat.xor_comm polyN]
  · rw [if_neg (by omega), if_pos (by simp [hr, hx])]
theorem stepsN_bits (r x : Nat) : ∀ k, stepsN k (r ^^^ x) = bitsN r x k ^^^ (x / 2 ^ k)
  | 0 => by simp [stepsN, bitsN]
  | k + 1 => by
    rw [stepsN, stepsN_bits r x k, stepN_xor, bitsN, Nat.div_div_eq_div_mul, ← Nat.pow_succ]
theorem takeN_bits (r x : Nat) (hx : x < 256) : bitsN r x 8 = takeN r x := by
  have := stepsN_bits r x 8
  rw [Nat.div_eq_of_lt (show x < 2 ^ 8 by omega)] at this
  simpa [takeN] using this.symm
/-- The reference's rest behind i bits. -/
def refN (r : Nat) (B : List Nat) : Nat → Nat
  | 0 => r
  | i + 1 => bitN (refN r B i) (B.getD (i / 8) 0 / 2 ^ (i % 8))
theorem refN_lt {r : Nat} (h : r < 4294967296) (B : List Nat) : ∀ k, refN r B k < 4294967296
  | 0 => h
  | k + 1 => bitN_lt (refN_lt h B k)
theorem refN_part (r : Nat) (B : List Nat) (p : Nat) : ∀ q, q ≤ 8 → refN r B (8 * p + q) = bitsN (refN r B (8 * p)) (B.getD p 0) q
  | 0, _ => rfl
  | q + 1, h => by
    rw [show 8 * p + (q + 1) = (8 * p + q) + 1 from rfl, refN, refN_part r B p q (by omega), bitsN]
    rw [show (8 * p + q) / 8 = p by omega, show (8 * p + q) % 8 = q by omega]
theorem refN_whole (r : Nat) (B : List Nat) (hB : ∀ x ∈ B, x < 256) : ∀ p, p ≤ B.length → refN r B (8 * p) = restN r (B.take p)
  | 0, _ => by simp [refN, restN]
  | p + 1, h => by
    have hp : p < B.length := by omega
    rw [show 8 * (p + 1) = 8 * p + 8 from rfl, refN_part r B p 8 (by omega), refN_whole r B hB p (by omega)]
    have hx : B.getD p 0 = B[p] := by simp [hp]
    rw [hx, takeN_bits _ _ (hB _ (List.getElem_mem hp)), ← List.take_append_getElem hp, restN_append]
    rfl
theorem refN_all (r : Nat) (B : List Nat) (hB : ∀ x ∈ B, x < 256) : refN r B (8 * B.length) = restN r B := by
  rw [refN_whole r B hB _ (Nat.le_refl _), List.take_length]

/-- A sum in four bytes. -/
def fourN (v : Nat) : List Nat := [v % 256, v / 256 % 256, v / 65536 % 256, v / 16777216 % 256]
def markN (B : List Nat) : List Nat := if B.length < 4 then B else B.take (B.length - 4) ++ fourN (joinN 0 (B.take (B.length - 4)))
def goodN (B : List Nat) : Bool := decide (4 ≤ B.length ∧ B.drop (B.length - 4) = fourN (joinN 0 (B.take (B.length - 4))))
theorem fourN_lt (v : Nat) : ∀ x ∈ fourN v, x < 256 := by
  intro x hx
  simp [fourN] at hx
  rcases hx with rfl | rfl | rfl | rfl <;> omega
theorem fourN_inj {v u : Nat} (hv : v < 4294967296) (hu : u < 4294967296) (h : fourN v = fourN u) : v = u := by
  simp [fourN] at h
  omega
theorem markN_length (B : List Nat) : (markN B).length = B.length := by
  unfold markN
  split
  · rfl
  · simp [fourN]; omega
theorem markN_lt (B : List Nat) (hB : ∀ x ∈ B, x < 256) : ∀ x ∈ markN B, x < 256 := by
  unfold markN
  split
  · exact hB
  · intro x hx
    rcases List.mem_append.1 hx with h | h
    · exact hB x (List.mem_of_mem_take h)
    · exact fourN_lt _ x h
theorem goodN_mark (B : List Nat) (h : 4 ≤ B.length) : goodN (markN B) = true := by
  have hl := markN_length B
  have e : markN B = B.take (B.length - 4) ++ fourN (joinN 0 (B.take (B.length - 4))) := by unfold markN; rw [if_neg (by omega)]
  have l1 : (B.take (B.length - 4)).length = B.length - 4 := by simp
  have e1 : (markN B).drop (B.length - 4) = fourN (joinN 0 (B.take (B.length - 4))) := by rw [e, List.drop_left' l1]
  have e2 : (markN B).take (B.length - 4) = B.take (B.length - 4) := by rw [e, List.take_left' l1]
  unfold goodN
  rw [hl, e1, e2]
  simp [h]
theorem goodN_iff (B : List Nat) (hB : ∀ x ∈ B, x < 256) : goodN B = (decide (3 < B.length) && decide (markN B = B)) := by
  unfold goodN markN
  by_cases h : B.length < 4
  · have h3 : ¬ 3 < B.length := by omega
    have h4 : ¬ 4 ≤ B.length := by omega
    simp [h3, h4]
  · rw [if_neg h]
    have h3 : 3 < B.length := by omega
    have h4 : 4 ≤ B.length := by omega
    simp only [h3, h4, true_and, decide_true, Bool.true_and, decide_eq_decide]
    constructor
    · intro e; rw [← e, List.take_append_drop]
    · intro e
      have l1 : (B.take (B.length - 4)).length = B.length - 4 := by simp
      have := congrArg (List.drop (B.length - 4)) e
      rw [List.drop_left' l1] at this
      exact this.symm
/-- A marked list in which one byte is unlike is not good. -/
theorem goodN_turned (B : List Nat) (hB : ∀ x ∈ B, x < 256) (h : 4 ≤ B.length) (i c : Nat) (hi : i < B.length) (hc : c < 256) (hne : c ≠ (markN B).getD i 0) : goodN ((markN B).set i c) = false := by
  have hl := markN_length B
  have e : markN B = B.take (B.length - 4) ++ fourN (joinN 0 (B.take (B.length - 4))) := by unfold markN; rw [if_neg (by omega)]
  have l1 : (B.take (B.length - 4)).length = B.length - 4 := by simp
  have hT : ∀ x ∈ B.take (B.length - 4), x < 256 := fun x hx => hB x (List.mem_of_mem_take hx)
  unfold goodN
  rw [List.length_set, hl]
  simp only [h, true_and, decide_eq_false_iff_not]
  intro e3
  generalize hT0 : B.take (B.length - 4) = T at *
  by_cases hin : i < B.length - 4
  · have e4 : (T ++ fourN (joinN 0 T)).set i c = T.set i c ++ fourN (joinN 0 T) := by rw [List.set_append_left _ _ (by omega)]
    rw [e, e4, List.drop_left' (by simpa using l1), List.take_left' (by simpa using l1)] at e3
    have e5 := fourN_inj (joinN_lt _ _) (joinN_lt _ _) e3
    have e6 := (joinN_told 0 T i c hT hc (by omega)).1 e5.symm
    apply hne
    rw [e, List.getD_eq_getElem?_getD, List.getElem?_append_left (by omega), List.getElem?_eq_getElem (by omega)]
    exact e6
  · have e4 : (T ++ fourN (joinN 0 T)).set i c = T ++ (fourN (joinN 0 T)).set (i - T.length) c := by rw [List.set_append_right _ _ (by omega)]
    rw [e, e4, List.drop_left' l1, List.take_left' l1] at e3
    apply hne
    have l2 : (fourN (joinN 0 T)).length = 4 := rfl
    rw [e, List.getD_eq_getElem?_getD, List.getElem?_append_right (by omega), ← e3]
    rw [List.getElem?_set_self (by rw [l2]; omega)]
    rfl

end Go.Proofs.Ytclfklcboigifaa
