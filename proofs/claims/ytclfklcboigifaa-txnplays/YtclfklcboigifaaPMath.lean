/-
  Numbers and texts as bytes: plain functions over lists of numbers. No condition beyond each law's own premises.
-/
namespace Go.Proofs.Ytclfklcboigifaa
set_option linter.unusedSimpArgs false
set_option linter.unusedVariables false
set_option maxRecDepth 100000

/-- n as w bytes, the greatest first. -/
def numB : Nat → Nat → List Nat
  | _, 0 => []
  | n, w + 1 => numB (n / 256) w ++ [n % 256]
theorem numB_length : ∀ (w n : Nat), (numB n w).length = w
  | 0, _ => rfl
  | w + 1, n => by simp [numB, numB_length w]
theorem numB_lt : ∀ (w n : Nat), ∀ x ∈ numB n w, x < 256
  | 0, _ => by simp [numB]
  | w + 1, n => by
    intro x hx
    simp [numB] at hx
    rcases hx with h | h
    · exact numB_lt w _ x h
    · omega
/-- The number that bytes are. -/
def valN (B : List Nat) : Nat := B.foldl (fun a x => a * 256 + x) 0
theorem valN_snoc (B : List Nat) (x : Nat) : valN (B ++ [x]) = valN B * 256 + x := by simp [valN]
theorem valN_nil : valN [] = 0 := rfl
theorem valN_numB : ∀ (w n : Nat), n < 256 ^ w → valN (numB n w) = n
  | 0, n, h => by simp at h; simp [numB, valN, h]
  | w + 1, n, h => by
    rw [numB, valN_snoc, valN_numB w (n / 256) (by rw [Nat.pow_succ] at h; omega)]
    omega
theorem valN_lt : ∀ (B : List Nat), (∀ x ∈ B, x < 256) → valN B < 256 ^ B.length := by
  intro B
  have h : ∀ (l : List Nat), (∀ x ∈ l.reverse, x < 256) → valN l.reverse < 256 ^ l.length := by
    intro l
    induction l with
    | nil => simp [valN]
    | cons x l ih =>
      intro hx
      rw [List.reverse_cons, valN_snoc, List.length_cons, Nat.pow_succ]
      have h1 := ih (fun y hy => hx y (by rw [List.reverse_cons]; exact List.mem_append_left _ hy))
      have h2 := hx x (by simp)
      generalize 256 ^ l.length = q at *
      omega
  intro hB
  have := h B.reverse (by simpa using hB)
  simpa using this
theorem valN_foldl (B : List Nat) : ∀ a, B.foldl (fun a x => a * 256 + x) a = a * 256 ^ B.length + valN B := by
  induction B with
  | nil => intro a; simp [valN]
  | cons x B ih =>
    intro a
    have h0 := ih (0 * 256 + x)
    have e : valN (x :: B) = B.foldl (fun a x => a * 256 + x) (0 * 256 + x) := rfl
    rw [List.foldl_cons, ih, e, h0, List.length_cons, Nat.pow_succ]
    simp [Nat.add_mul, Nat.mul_assoc, Nat.add_assoc, Nat.mul_comm (256 ^ B.length) 256]
theorem valN_cons (x : Nat) (B : List Nat) : valN (x :: B) = x * 256 ^ B.length + valN B := by
  have := valN_foldl B (0 * 256 + x)
  simpa [valN] using this
theorem numB_inj {a b w : Nat} (ha : a < 256 ^ w) (hb : b < 256 ^ w) (h : numB a w = numB b w) : a = b := by
  have := congrArg valN h
  rwa [valN_numB w a ha, valN_numB w b hb] at this
theorem pow256_le {w : Nat} (h : w ≤ 8) : 256 ^ w ≤ 18446744073709551616 := by
  have := Nat.pow_le_pow_right (n := 256) (by decide) h
  exact Nat.le_trans this (by decide)
theorem pow256_le7 {w : Nat} (h : w ≤ 7) : 256 ^ w ≤ 72057594037927936 := by
  have := Nat.pow_le_pow_right (n := 256) (by decide) h
  exact Nat.le_trans this (by decide)
theorem pow_8 (w : Nat) : 2 ^ (8 * w) = 256 ^ w := by rw [Nat.pow_mul]

/-- Does n go into w bytes? -/
def fitsN (n w : Int) : Bool := decide (1 ≤ w ∧ w ≤ 8 ∧ 0 ≤ n ∧ n.toNat < 256 ^ w.toNat)

/-- The number of w bytes that B begins with. -/
def firstN (B : List Nat) (w : Int) : Option Nat :=
  if 1 ≤ w ∧ w ≤ 8 ∧ w ≤ B.length ∧ valN (B.take w.toNat) < 9223372036854775808 then some (valN (B.take w.toNat)) else none

/-- A scan's Number: what it answers, what is left, the error. -/
def scanNum (B : List Nat) (E w : Int) : Int × List Nat × Int :=
  if E ≠ 0 then (0, B, E) else
  match firstN B w with
  | none => (0, B, 20)
  | some n => (n, B.drop w.toNat, 0)
/-- A scan's Text. -/
def scanText (B : List Nat) (E m : Int) : List Nat × List Nat × Int :=
  if E ≠ 0 then ([], B, E) else
  match firstN B 2 with
  | none => ([], B, 20)
  | some n => if (n : Int) ≤ m ∧ n + 2 ≤ B.length then ((B.drop 2).take n, B.drop (2 + n), 0) else ([], B, 20)
def noughtsN (B : List Nat) (E : Int) : Bool := decide (E = 0) && B.all (· == 0)

/-- Noughts behind A, up to a multiple of n. -/
def missN (l : Nat) (n : Int) : Nat := if n < 1 then 0 else if l % n.toNat = 0 then 0 else n.toNat - l % n.toNat
def padN (A : List Nat) (n : Int) : List Nat := A ++ List.replicate (missN A.length n) 0

theorem scanNum_err {B : List Nat} {E : Int} (w : Int) (h : E ≠ 0) : scanNum B E w = (0, B, E) := by simp [scanNum, h]
theorem scanNum_lt {B : List Nat} {E w : Int} (hB : ∀ x ∈ B, x < 256) : ∀ x ∈ (scanNum B E w).2.1, x < 256 := by
  intro x hx
  unfold scanNum at hx
  split at hx
  · exact hB x hx
  · split at hx
    · exact hB x hx
    · exact hB x (List.mem_of_mem_drop hx)
theorem scanNum_len (B : List Nat) (E w : Int) : (scanNum B E w).2.1.length ≤ B.length := by
  unfold scanNum
  split
  · simp
  · split <;> simp
theorem scanText_lt {B : List Nat} {E m : Int} (hB : ∀ x ∈ B, x < 256) : (∀ x ∈ (scanText B E m).1, x < 256) ∧ ∀ x ∈ (scanText B E m).2.1, x < 256 := by
  unfold scanText
  split
  · exact ⟨by simp, hB⟩
  · split
    · exact ⟨by simp, hB⟩
    · split
      · exact ⟨fun x hx => hB x (List.mem_of_mem_drop (List.mem_of_mem_take hx)), fun x hx => hB x (List.mem_of_mem_drop hx)⟩
      · exact ⟨by simp, hB⟩
theorem scanText_len (B : List Nat) (E m : Int) : (scanText B E m).2.1.length ≤ B.length := by
  unfold scanText
  split
  · simp
  · split
    · simp
    · split <;> simp

/-- 8 bytes are below 2^63 just where the first of them is below 128. -/
theorem eight_lt (B : List Nat) (hB : ∀ x ∈ B, x < 256) (hl : 8 ≤ B.length) : valN (B.take 8) < 9223372036854775808 ↔ B.getD 0 0 ≤ 127 := by
  match B, hl with
  | x :: B, hl =>
    simp only [List.take_succ_cons, List.getD_cons_zero]
    have h7 : (B.take 7).length = 7 := by simp at hl ⊢; omega
    rw [valN_cons, h7]
    have h1 := valN_lt (B.take 7) (fun y hy => hB y (by simp [List.mem_of_mem_take hy]))
    rw [h7] at h1
    have e : 256 ^ 7 = 72057594037927936 := by decide
    rw [e] at h1 ⊢
    omega
theorem seven_lt (B : List Nat) (hB : ∀ x ∈ B, x < 256) (w : Nat) (hw : w ≤ 7) : valN (B.take w) < 9223372036854775808 := by
  have h1 := valN_lt (B.take w) (fun y hy => hB y (List.mem_of_mem_take hy))
  have h2 : (B.take w).length ≤ 7 := by simp; omega
  have h3 := pow256_le7 h2
  omega
theorem val_take_lt (B : List Nat) (hB : ∀ x ∈ B, x < 256) (w k : Nat) (hk : k ≤ w) (hw : w ≤ B.length) : valN (B.take k) ≤ valN (B.take w) := by
  have h : ∀ j, j + k ≤ B.length → valN (B.take k) ≤ valN (B.take (j + k)) := by
    intro j
    induction j with
    | zero => simp
    | succ j ih =>
      intro hj
      have h1 := ih (by omega)
      rw [show j + 1 + k = (j + k) + 1 by omega, ← List.take_append_getElem (by omega : j + k < B.length), valN_snoc]
      omega
  have := h (w - k) (by omega)
  rwa [show w - k + k = w by omega] at this

/-- What is put is told again. -/
theorem firstN_num (n w : Nat) (R : List Nat) (h1 : 1 ≤ w) (h8 : w ≤ 8) (hn : n < 256 ^ w) (h63 : n < 9223372036854775808) : firstN (numB n w ++ R) w = some n := by
  have ht : (numB n w ++ R).take (w : Int).toNat = numB n w := by
    rw [Int.toNat_natCast, List.take_append_of_le_length (by rw [numB_length]; exact Nat.le_refl _), List.take_of_length_le (by rw [numB_length]; exact Nat.le_refl _)]
  unfold firstN
  rw [ht, valN_numB w n hn, if_pos ⟨by omega, by omega, by simp [numB_length]; omega, h63⟩]
theorem drop_num (n w : Nat) (R : List Nat) : (numB n w ++ R).drop w = R := by
  rw [List.drop_append_of_le_length (by rw [numB_length]; exact Nat.le_refl _), List.drop_of_length_le (by rw [numB_length]; exact Nat.le_refl _)]
  rfl
theorem scanNum_num (n w : Nat) (R : List Nat) (h1 : 1 ≤ w) (h8 : w ≤ 8) (hn : n < 256 ^ w) (h63 : n < 9223372036854775808) : scanNum (numB n w ++ R) 0 w = ((n : Int), R, 0) := by
  simp [scanNum, firstN_num n w R h1 h8 hn h63, drop_num]
def textB (B : List Nat) : List Nat := numB B.length 2 ++ B
theorem textB_lt (B : List Nat) (hB : ∀ x ∈ B, x < 256) : ∀ x ∈ textB B, x < 256 := by
  intro x hx
  rcases List.mem_append.1 hx with h | h
  · exact numB_lt _ _ x h
  · exact hB x h
theorem textB_length (B : List Nat) : (textB B).length = B.length + 2 := by simp [textB, numB_length]; omega
theorem scanText_text (B R : List Nat) (m : Int) (hm : (B.length : Int) ≤ m) (hl : B.length < 65536) : scanText (textB B ++ R) 0 m = (B, R, 0) := by
  have h1 := firstN_num B.length 2 (B ++ R) (by decide) (by decide) (by simpa using hl) (by omega)
  have h2 := drop_num B.length 2 (B ++ R)
  have e : textB B ++ R = numB B.length 2 ++ (B ++ R) := by simp [textB]
  have h1' : firstN (numB B.length 2 ++ (B ++ R)) 2 = some B.length := h1
  have h3 : (numB B.length 2 ++ (B ++ R)).drop (2 + B.length) = R := by rw [← List.drop_drop, h2]; simp
  rw [e]
  unfold scanText
  simp only [ne_eq, not_true_eq_false, if_false, h1']
  rw [if_pos ⟨hm, by simp [numB_length]; omega⟩, h2, h3]
  simp

/-- Bytes stand as numbers do. -/
def lexN : List Nat → List Nat → Bool
  | [], [] => false
  | [], _ :: _ => true
  | _ :: _, [] => false
  | x :: A, y :: B => if x < y then true else if y < x then false else lexN A B
theorem lexN_val : ∀ (A B : List Nat), A.length = B.length → (∀ x ∈ A, x < 256) → (∀ x ∈ B, x < 256) → lexN A B = decide (valN A < valN B)
  | [], [], _, _, _ => rfl
  | x :: A, y :: B, h, hA, hB => by
    have hl : A.length = B.length := by simpa using h
    have h1 := valN_lt A (fun z hz => hA z (by simp [hz]))
    have h2 := valN_lt B (fun z hz => hB z (by simp [hz]))
    have ih := lexN_val A B hl (fun z hz => hA z (by simp [hz])) (fun z hz => hB z (by simp [hz]))
    rw [lexN, valN_cons, valN_cons, ih, hl]
    rw [hl] at h1
    generalize 256 ^ B.length = q at *
    by_cases hxy : x < y
    · rw [if_pos hxy]
      have : (x + 1) * q ≤ y * q := Nat.mul_le_mul_right q hxy
      rw [Nat.add_mul] at this
      symm; simp; omega
    · rw [if_neg hxy]
      by_cases hyx : y < x
      · rw [if_pos hyx]
        have : (y + 1) * q ≤ x * q := Nat.mul_le_mul_right q hyx
        rw [Nat.add_mul] at this
        symm; simp; omega
      · rw [if_neg hyx]
        obtain rfl : x = y := by omega
        simp
theorem lexN_num {a b w : Nat} (ha : a < 256 ^ w) (hb : b < 256 ^ w) : lexN (numB a w) (numB b w) = decide (a < b) := by
  rw [lexN_val _ _ (by rw [numB_length, numB_length]) (numB_lt w a) (numB_lt w b), valN_numB w a ha, valN_numB w b hb]

end Go.Proofs.Ytclfklcboigifaa
