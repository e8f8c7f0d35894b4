/-
  Sums as numbers: the rest and its steps; that one unlike byte is told.
-/
import Derived.WalkKit
import Derived.WalkSpells
import Derived.WalkLawsBesides
import Derived.Laws.CopyOwn
import Derived.StillTailTactics
import Derived.OrdersHeld
namespace Go.Proofs.Ytbbhchmdggfncaa
set_option linter.unusedSimpArgs false
set_option linter.unusedVariables false
set_option maxRecDepth 100000

def polyN : Nat := 3988292384
def stepN (r : Nat) : Nat := if r % 2 = 1 then (r / 2) ^^^ polyN else r / 2
def stepsN : Nat → Nat → Nat
  | 0, r => r
  | k + 1, r => stepN (stepsN k r)
def takeN (r x : Nat) : Nat := stepsN 8 (r ^^^ x)
def restN (r : Nat) (B : List Nat) : Nat := B.foldl takeN r
def joinN (was : Nat) (B : List Nat) : Nat := 4294967295 - restN (4294967295 - was) B

theorem stepN_lt {r : Nat} (h : r < 4294967296) : stepN r < 4294967296 := by
  unfold stepN
  split
  · exact Nat.xor_lt_two_pow (n := 32) (by omega) (by decide)
  · omega
theorem stepsN_lt {r : Nat} (h : r < 4294967296) : ∀ k, stepsN k r < 4294967296
  | 0 => h
  | k + 1 => stepN_lt (stepsN_lt h k)
theorem takeN_lt {r x : Nat} (h : r < 4294967296) (hx : x < 256) : takeN r x < 4294967296 :=
  stepsN_lt (Nat.xor_lt_two_pow (n := 32) h (by omega)) 8
theorem restN_lt : ∀ {B : List Nat} {r : Nat}, r < 4294967296 → (∀ x ∈ B, x < 256) → restN r B < 4294967296
  | [], _, h, _ => h
  | x :: B, r, h, hB => restN_lt (B := B) (takeN_lt h (hB x (by simp))) (fun y hy => hB y (by simp [hy]))
theorem joinN_lt (was : Nat) (B : List Nat) : joinN was B < 4294967296 := by unfold joinN; omega

theorem restN_append (r : Nat) (A B : List Nat) : restN r (A ++ B) = restN (restN r A) B := by simp [restN]
/-- A sum in four bytes. -/
def fourN (v : Nat) : List Nat := [v % 256, v / 256 % 256, v / 65536 % 256, v / 16777216 % 256]
def markN (B : List Nat) : List Nat := if B.length < 4 then B else B.take (B.length - 4) ++ fourN (joinN 0 (B.take (B.length - 4)))
def goodN (B : List Nat) : Bool := decide (4 ≤ B.length ∧ B.drop (B.length - 4) = fourN (joinN 0 (B.take (B.length - 4))))
theorem fourN_lt (v : Nat) : ∀ x ∈ fourN v, x < 256 := by
  intro x hx
  simp [fourN] at hx
  rcases hx with rfl | rfl | rfl | rfl <;> omega
theorem markN_length (B : List Nat) : (markN B).length = B.length := by
  unfold markN
  split
  · rfl
  · simp [fourN]; omega
theorem markN_lt (B : List Nat) (hB : ∀ x ∈ B, x < 256) : ∀ x ∈ markN B, x < 256 := by
  unfold markN
  split
  · exact hB
  · intro x hx
    rcases List.mem_append.1 hx with h | h
    · exact hB x (List.mem_of_mem_take h)
    · exact fourN_lt _ x h
theorem goodN_mark (B : List Nat) (h : 4 ≤ B.length) : goodN (markN B) = true := by
  have hl := markN_length B
  have e : markN B = B.take (B.length - 4) ++ fourN (joinN 0 (B.take (B.length - 4))) := by unfold markN; rw [if_neg (by omega)]
  have l1 : (B.take (B.length - 4)).length = B.length - 4 := by simp
  have e1 : (markN B).drop (B.length - 4) = fourN (joinN 0 (B.take (B.length - 4))) := by rw [e, List.drop_left' l1]
  have e2 : (markN B).take (B.length - 4) = B.take (B.length - 4) := by rw [e, List.take_left' l1]
  unfold goodN
  rw [hl, e1, e2]
  simp [h]
end Go.Proofs.Ytbbhchmdggfncaa



/-
  Numbers and texts as bytes: plain functions over lists of numbers. No condition beyond each law's own premises.
-/
namespace Go.Proofs.Ytbbhchmdggfncaa
set_option linter.unusedSimpArgs false
set_option linter.unusedVariables false
set_option maxRecDepth 100000

/-- n as w bytes, the greatest first. -/
def numB : Nat → Nat → List Nat
  | _, 0 => []
  | n, w + 1 => numB (n / 256) w ++ [n % 256]
theorem numB_length : ∀ (w n : Nat), (numB n w).length = w
  | 0, _ => rfl
  | w + 1, n => by simp [numB, numB_length w]
theorem numB_lt : ∀ (w n : Nat), ∀ x ∈ numB n w, x < 256
  | 0, _ => by simp [numB]
  | w + 1, n => by
    intro x hx
    simp [numB] at hx
    rcases hx with h | h
    · exact numB_lt w _ x h
    · omega
/-- The number that bytes are. -/
def valN (B : List Nat) : Nat := B.foldl (fun a x => a * 256 + x) 0
theorem valN_snoc (B : List Nat) (x : Nat) : valN (B ++ [x]) = valN B * 256 + x := by simp [valN]
theorem valN_numB : ∀ (w n : Nat), n < 256 ^ w → valN (numB n w) = n
  | 0, n, h => by simp at h; simp [numB, valN, h]
  | w + 1, n, h => by
    rw [numB, valN_snoc, valN_numB w (n / 256) (by rw [Nat.pow_succ] at h; omega)]
    omega
theorem valN_lt : ∀ (B : List Nat), (∀ x ∈ B, x < 256) → valN B < 256 ^ B.length := by
  intro B
  have h : ∀ (l : List Nat), (∀ x ∈ l.reverse, x < 256) → valN l.reverse < 256 ^ l.length := by
    intro l
    induction l with
    | nil => simp [valN]
    | cons x l ih =>
      intro hx
      rw [List.reverse_cons, valN_snoc, List.length_cons, Nat.pow_succ]
      have h1 := ih (fun y hy => hx y (by rw [List.reverse_cons]; exact List.mem_append_left _ hy))
      have h2 := hx x (by simp)
      generalize 256 ^ l.length = q at *
      omega
  intro hB
  have := h B.reverse (by simpa using hB)
  simpa using this
theorem valN_foldl (B : List Nat) : ∀ a, B.foldl (fun a x => a * 256 + x) a = a * 256 ^ B.length + valN B := by
  induction B with
  | nil => intro a; simp [valN]
  | cons x B ih =>
    intro a
    have h0 := ih (0 * 256 + x)
    have e : valN (x :: B) = B.foldl (fun a x => a * 256 + x) (0 * 256 + x) := rfl
    rw [List.foldl_cons, ih, e, h0, List.length_cons, Nat.pow_succ]
    simp [Nat.add_mul, Nat.mul_assoc, Nat.add_assoc, Nat.mul_comm (256 ^ B.length) 256]
theorem valN_cons (x : Nat) (B : List Nat) : valN (x :: B) = x * 256 ^ B.length + valN B := by
  have := valN_foldl B (0 * 256 + x)
  simpa [valN] using this
theorem pow256_le {w : Nat} (h : w ≤ 8) : 256 ^ w ≤ 18446744073709551616 := by
  have := Nat.pow_le_pow_right (n := 256) (by decide) h
  exact Nat.le_trans this (by decide)
theorem pow256_le7 {w : Nat} (h : w ≤ 7) : 256 ^ w ≤ 72057594037927936 := by
  have := Nat.pow_le_pow_right (n := 256) (by decide) h
  exact Nat.le_trans this (by decide)
theorem pow_8 (w : Nat) : 2 ^ (8 * w) = 256 ^ w := by rw [Nat.pow_mul]

/-- Does n go into w bytes? -/
def fitsN (n w : Int) : Bool := decide (1 ≤ w ∧ w ≤ 8 ∧ 0 ≤ n ∧ n.toNat < 256 ^ w.toNat)

/-- The number of w bytes that B begins with. -/
def firstN (B : List Nat) (w : Int) : Option Nat :=
  if 1 ≤ w ∧ w ≤ 8 ∧ w ≤ B.length ∧ valN (B.take w.toNat) < 9223372036854775808 then some (valN (B.take w.toNat)) else none

/-- A scan's Number: what it answers, what is left, the error. -/
def scanNum (B : List Nat) (E w : Int) : Int × List Nat × Int :=
  if E ≠ 0 then (0, B, E) else
  match firstN B w with
  | none => (0, B, 20)
  | some n => (n, B.drop w.toNat, 0)
/-- A scan's Text. -/
def scanText (B : List Nat) (E m : Int) : List Nat × List Nat × Int :=
  if E ≠ 0 then ([], B, E) else
  match firstN B 2 with
  | none => ([], B, 20)
  | some n => if (n : Int) ≤ m ∧ n + 2 ≤ B.length then ((B.drop 2).take n, B.drop (2 + n), 0) else ([], B, 20)
def noughtsN (B : List Nat) (E : Int) : Bool := decide (E = 0) && B.all (· == 0)

/-- Noughts behind A, up to a multiple of n. -/
def missN (l : Nat) (n : Int) : Nat := if n < 1 then 0 else if l % n.toNat = 0 then 0 else n.toNat - l % n.toNat
def padN (A : List Nat) (n : Int) : List Nat := A ++ List.replicate (missN A.length n) 0

theorem scanNum_err {B : List Nat} {E : Int} (w : Int) (h : E ≠ 0) : scanNum B E w = (0, B, E) := by simp [scanNum, h]
theorem scanNum_len (B : List Nat) (E w : Int) : (scanNum B E w).2.1.length ≤ B.length := by
  unfold scanNum
  split
  · simp
  · split <;> simp
theorem scanText_len (B : List Nat) (E m : Int) : (scanText B E m).2.1.length ≤ B.length := by
  unfold scanText
  split
  · simp
  · split
    · simp
    · split <;> simp

/-- 8 bytes are below 2^63 just where the first of them is below 128. -/
theorem eight_lt (B : List Nat) (hB : ∀ x ∈ B, x < 256) (hl : 8 ≤ B.length) : valN (B.take 8) < 9223372036854775808 ↔ B.getD 0 0 ≤ 127 := by
  match B, hl with
  | x :: B, hl =>
    simp only [List.take_succ_cons, List.getD_cons_zero]
    have h7 : (B.take 7).length = 7 := by simp at hl ⊢; omega
    rw [valN_cons, h7]
    have h1 := valN_lt (B.take 7) (fun y hy => hB y (by simp [List.mem_of_mem_take hy]))
    rw [h7] at h1
    have e : 256 ^ 7 = 72057594037927936 := by decide
    rw [e] at h1 ⊢
    omega
theorem seven_lt (B : List Nat) (hB : ∀ x ∈ B, x < 256) (w : Nat) (hw : w ≤ 7) : valN (B.take w) < 9223372036854775808 := by
  have h1 := valN_lt (B.take w) (fun y hy => hB y (List.mem_of_mem_take hy))
  have h2 : (B.take w).length ≤ 7 := by simp; omega
  have h3 := pow256_le7 h2
  omega
/-- What is put is told again. -/
theorem firstN_num (n w : Nat) (R : List Nat) (h1 : 1 ≤ w) (h8 : w ≤ 8) (hn : n < 256 ^ w) (h63 : n < 9223372036854775808) : firstN (numB n w ++ R) w = some n := by
  have ht : (numB n w ++ R).take (w : Int).toNat = numB n w := by
    rw [Int.toNat_natCast, List.take_append_of_le_length (by rw [numB_length]; exact Nat.le_refl _), List.take_of_length_le (by rw [numB_length]; exact Nat.le_refl _)]
  unfold firstN
  rw [ht, valN_numB w n hn, if_pos ⟨by omega, by omega, by simp [numB_length]; omega, h63⟩]
theorem drop_num (n w : Nat) (R : List Nat) : (numB n w ++ R).drop w = R := by
  rw [List.drop_append_of_le_length (by rw [numB_length]; exact Nat.le_refl _), List.drop_of_length_le (by rw [numB_length]; exact Nat.le_refl _)]
  rfl
theorem scanNum_num (n w : Nat) (R : List Nat) (h1 : 1 ≤ w) (h8 : w ≤ 8) (hn : n < 256 ^ w) (h63 : n < 9223372036854775808) : scanNum (numB n w ++ R) 0 w = ((n : Int), R, 0) := by
  simp [scanNum, firstN_num n w R h1 h8 hn h63, drop_num]
def textB (B : List Nat) : List Nat := numB B.length 2 ++ B
theorem textB_lt (B : List Nat) (hB : ∀ x ∈ B, x < 256) : ∀ x ∈ textB B, x < 256 := by
  intro x hx
  rcases List.mem_append.1 hx with h | h
  · exact numB_lt _ _ x h
  · exact hB x h
theorem textB_length (B : List Nat) : (textB B).length = B.length + 2 := by simp [textB, numB_length]; omega
theorem scanText_text (B R : List Nat) (m : Int) (hm : (B.length : Int) ≤ m) (hl : B.length < 65536) : scanText (textB B ++ R) 0 m = (B, R, 0) := by
  have h1 := firstN_num B.length 2 (B ++ R) (by decide) (by decide) (by simpa using hl) (by omega)
  have h2 := drop_num B.length 2 (B ++ R)
  have e : textB B ++ R = numB B.length 2 ++ (B ++ R) := by simp [textB]
  have h1' : firstN (numB B.length 2 ++ (B ++ R)) 2 = some B.length := h1
  have h3 : (numB B.length 2 ++ (B ++ R)).drop (2 + B.length) = R := by rw [← List.drop_drop, h2]; simp
  rw [e]
  unfold scanText
  simp only [ne_eq, not_true_eq_false, if_false, h1']
  rw [if_pos ⟨hm, by simp [numB_length]; omega⟩, h2, h3]
  simp

end Go.Proofs.Ytbbhchmdggfncaa


/-
  Frames, their sectors, and bodies that are spread over them: plain functions over lists of numbers. No condition beyond each law's own premises.
-/
namespace Go.Proofs.Ytbbhchmdggfncaa
set_option linter.unusedSimpArgs false
set_option linter.unusedVariables false
set_option maxRecDepth 100000

structure Fr where
  lsn : Int
  ep : Int
  ix : Int
  ct : Int
  B : List Nat
def fr0 : Fr := ⟨0, 0, 0, 0, []⟩
def rightN (f : Fr) : Bool := decide (0 ≤ f.lsn ∧ f.lsn ≤ 4611686018427387903 ∧ 0 ≤ f.ep ∧ f.ep ≤ 4294967295 ∧ f.B.length ≤ 40 ∧ 0 ≤ f.ix ∧ f.ix < f.ct ∧ f.ct ≤ 65535)
theorem rightN_iff (f : Fr) : rightN f = true ↔ (0 ≤ f.lsn ∧ f.lsn ≤ 4611686018427387903 ∧ 0 ≤ f.ep ∧ f.ep ≤ 4294967295 ∧ f.B.length ≤ 40 ∧ 0 ≤ f.ix ∧ f.ix < f.ct ∧ f.ct ≤ 65535) := by simp [rightN]
def headN (f : Fr) : List Nat := numB 46878 2 ++ (numB f.lsn.toNat 8 ++ (numB f.ep.toNat 4 ++ (numB f.ix.toNat 2 ++ (numB f.ct.toNat 2 ++ textB f.B))))
theorem headN_length (f : Fr) : (headN f).length = f.B.length + 20 := by
  simp [headN, numB_length, textB_length]; omega
theorem headN_lt (f : Fr) (hB : ∀ x ∈ f.B, x < 256) : ∀ x ∈ headN f, x < 256 := by
  intro x hx
  simp only [headN, List.mem_append] at hx
  rcases hx with h | h | h | h | h | h
  · exact numB_lt _ _ x h
  · exact numB_lt _ _ x h
  · exact numB_lt _ _ x h
  · exact numB_lt _ _ x h
  · exact numB_lt _ _ x h
  · exact textB_lt _ hB x h
def putN (f : Fr) : List Nat := markN (padN (headN f) 64)
theorem pad64 (f : Fr) (h : f.B.length ≤ 40) : padN (headN f) 64 = headN f ++ List.replicate (64 - (headN f).length) 0 := by
  have hl := headN_length f
  have hm : missN (headN f).length 64 = 64 - (headN f).length := by
    unfold missN
    rw [if_neg (by decide), show (64 : Int).toNat = 64 from rfl, Nat.mod_eq_of_lt (by omega), if_neg (by omega)]
  unfold padN
  rw [hm]
theorem pad64_length (f : Fr) (h : f.B.length ≤ 40) : (padN (headN f) 64).length = 64 := by
  have hl := headN_length f
  rw [pad64 f h]; simp; omega
theorem pad64_lt (f : Fr) (h : f.B.length ≤ 40) (hB : ∀ x ∈ f.B, x < 256) : ∀ x ∈ padN (headN f) 64, x < 256 := by
  intro x hx
  rw [pad64 f h] at hx
  rcases List.mem_append.1 hx with h | h
  · exact headN_lt f hB x h
  · rw [List.eq_of_mem_replicate h]; decide
theorem putN_length (f : Fr) (h : f.B.length ≤ 40) : (putN f).length = 64 := by rw [putN, markN_length, pad64_length f h]
theorem putN_lt (f : Fr) (h : f.B.length ≤ 40) (hB : ∀ x ∈ f.B, x < 256) : ∀ x ∈ putN f, x < 256 := markN_lt _ (pad64_lt f h hB)
theorem putN_eq (f : Fr) (h : f.B.length ≤ 40) : putN f = (headN f ++ List.replicate (60 - (headN f).length) 0) ++ fourN (joinN 0 (headN f ++ List.replicate (60 - (headN f).length) 0)) := by
  have hl := headN_length f
  have e : (padN (headN f) 64).take 60 = headN f ++ List.replicate (60 - (headN f).length) 0 := by
    rw [pad64 f h, List.take_append, List.take_of_length_le (by omega), List.take_replicate]
    congr 2
    omega
  unfold putN markN
  rw [pad64_length f h, if_neg (by decide), show 64 - 4 = 60 from rfl, e]
theorem putN_take (f : Fr) (h : f.B.length ≤ 40) : (putN f).take 60 = headN f ++ List.replicate (60 - (headN f).length) 0 := by
  have hl := headN_length f
  rw [putN_eq f h, List.take_left' (by simp; omega)]

def readN (b : List Nat) : Fr × Bool :=
  let s0 := scanNum b 0 2
  let s1 := scanNum s0.2.1 s0.2.2 8
  let s2 := scanNum s1.2.1 s1.2.2 4
  let s3 := scanNum s2.2.1 s2.2.2 2
  let s4 := scanNum s3.2.1 s3.2.2 2
  let s5 := scanText s4.2.1 s4.2.2 40
  let f : Fr := ⟨s1.1, s2.1, s3.1, s4.1, s5.1⟩
  (f, noughtsN s5.2.1 s5.2.2 && rightN f)
def getN (b : List Nat) : Fr × Int :=
  if b.length ≠ 64 ∨ (scanNum b 0 2).1 ≠ 46878 then (fr0, 20)
  else if goodN b = false then (fr0, 21)
  else if (readN (b.take 60)).2 = true then ((readN (b.take 60)).1, 0) else (fr0, 20)

theorem sn2 (n : Nat) (R : List Nat) (hn : n < 65536) : scanNum (numB n 2 ++ R) 0 2 = ((n : Int), R, 0) := scanNum_num n 2 R (by decide) (by decide) (by simpa using hn) (by omega)
theorem sn4 (n : Nat) (R : List Nat) (hn : n < 4294967296) : scanNum (numB n 4 ++ R) 0 4 = ((n : Int), R, 0) := scanNum_num n 4 R (by decide) (by decide) (by simpa using hn) (by omega)
theorem sn8 (n : Nat) (R : List Nat) (hn : n < 9223372036854775808) : scanNum (numB n 8 ++ R) 0 8 = ((n : Int), R, 0) := scanNum_num n 8 R (by decide) (by decide) (by simp; omega) (by omega)
theorem noughts_rep (k : Nat) : noughtsN (List.replicate k 0) 0 = true := by simp [noughtsN]

theorem readN_head (f : Fr) (hr : rightN f = true) (k : Nat) : readN (headN f ++ List.replicate k 0) = (f, true) := by
  obtain ⟨h1, h2, h3, h4, h5, h6, h7, h8⟩ := (rightN_iff f).1 hr
  have e : headN f ++ List.replicate k 0 = numB 46878 2 ++ (numB f.lsn.toNat 8 ++ (numB f.ep.toNat 4 ++ (numB f.ix.toNat 2 ++ (numB f.ct.toNat 2 ++ (textB f.B ++ List.replicate k 0))))) := by simp [headN]
  unfold readN
  rw [e, sn2 46878 _ (by decide)]
  simp only []
  rw [sn8 f.lsn.toNat _ (by omega)]
  simp only []
  rw [sn4 f.ep.toNat _ (by omega)]
  simp only []
  rw [sn2 f.ix.toNat _ (by omega)]
  simp only []
  rw [sn2 f.ct.toNat _ (by omega)]
  simp only []
  rw [scanText_text f.B _ 40 (by omega) (by omega)]
  simp only [noughts_rep, Bool.true_and]
  have ef : (⟨(f.lsn.toNat : Int), (f.ep.toNat : Int), (f.ix.toNat : Int), (f.ct.toNat : Int), f.B⟩ : Fr) = f := by
    cases f
    simp at h1 h3 h6 h7 ⊢
    omega
  rw [ef, hr]
theorem getN_put (f : Fr) (hr : rightN f = true) (hB : ∀ x ∈ f.B, x < 256) : getN (putN f) = (f, 0) := by
  obtain ⟨h1, h2, h3, h4, h5, h6, h7, h8⟩ := (rightN_iff f).1 hr
  have hl := headN_length f
  have hs : (scanNum (putN f) 0 2).1 = 46878 := by
    rw [putN_eq f h5]
    have e : (headN f ++ List.replicate (60 - (headN f).length) 0) ++ fourN (joinN 0 (headN f ++ List.replicate (60 - (headN f).length) 0)) = numB 46878 2 ++ (numB f.lsn.toNat 8 ++ (numB f.ep.toNat 4 ++ (numB f.ix.toNat 2 ++ (numB f.ct.toNat 2 ++ (textB f.B ++ (List.replicate (60 - (headN f).length) 0 ++ fourN (joinN 0 (headN f ++ List.replicate (60 - (headN f).length) 0)))))))) := by simp [headN]
    rw [e, sn2 46878 _ (by decide)]
    rfl
  have hg : goodN (putN f) = true := goodN_mark _ (by rw [pad64_length f h5]; decide)
  have hrd : readN ((putN f).take 60) = (f, true) := by rw [putN_take f h5, readN_head f hr]
  unfold getN
  rw [if_neg (by rw [putN_length f h5, hs]; simp), if_neg (by rw [hg]; simp), hrd]
  rfl

/-- Bytes are the bytes of the number that they are. -/
theorem numB_valN : ∀ (xs : List Nat), (∀ x ∈ xs, x < 256) → numB (valN xs) xs.length = xs := by
  intro xs
  have h : ∀ l : List Nat, (∀ x ∈ l.reverse, x < 256) → numB (valN l.reverse) l.length = l.reverse := by
    intro l
    induction l with
    | nil => intro _; rfl
    | cons x l ih =>
      intro hx
      have h1 := ih (fun y hy => hx y (by rw [List.reverse_cons]; exact List.mem_append_left _ hy))
      have h2 := hx x (by simp)
      rw [List.reverse_cons, valN_snoc, List.length_cons, numB, show (valN l.reverse * 256 + x) / 256 = valN l.reverse by omega, show (valN l.reverse * 256 + x) % 256 = x by omega, h1]
  intro hB
  have := h xs.reverse (by simpa using hB)
  simpa using this
theorem firstN_inv {B : List Nat} {w n : Nat} (hB : ∀ x ∈ B, x < 256) (h : firstN B w = some n) : n < 256 ^ w ∧ n < 9223372036854775808 ∧ B = numB n w ++ B.drop w := by
  unfold firstN at h
  split at h
  case isFalse => cases h
  case isTrue hc =>
    obtain ⟨c1, c2, c3, c4⟩ := hc
    simp only [Int.toNat_natCast, Option.some.injEq] at h c4
    have hl : (B.take w).length = w := by simp; omega
    have hb : ∀ x ∈ B.take w, x < 256 := fun x hx => hB x (List.mem_of_mem_take hx)
    have h1 := valN_lt (B.take w) hb
    have h2 := numB_valN (B.take w) hb
    rw [hl] at h1 h2
    rw [h] at h1 h2 c4
    refine ⟨h1, c4, ?_⟩
    rw [h2, List.take_append_drop]
theorem scanNum_inv {B : List Nat} {E : Int} {w : Nat} (hB : ∀ x ∈ B, x < 256) (h : (scanNum B E w).2.2 = 0) : E = 0 ∧ ∃ n : Nat, scanNum B E w = ((n : Int), B.drop w, 0) ∧ n < 256 ^ w ∧ n < 9223372036854775808 ∧ B = numB n w ++ B.drop w := by
  unfold scanNum at h ⊢
  by_cases hE : E = 0
  · refine ⟨hE, ?_⟩
    rw [if_neg (by simp [hE])] at h ⊢
    cases hf : firstN B (w : Int) with
    | none => rw [hf] at h; simp at h
    | some n =>
      have := firstN_inv hB hf
      exact ⟨n, by simp, this.1, this.2.1, this.2.2⟩
  · rw [if_pos hE] at h
    exact absurd h hE
theorem getN_right {b : List Nat} (h : (getN b).2 = 0) : rightN (getN b).1 = true := by
  unfold getN at h ⊢
  split at h
  · simp at h
  · rename_i h1
    rw [if_neg h1]
    split at h
    · simp at h
    · rename_i h2
      rw [if_neg h2]
      split at h
      · rename_i h3
        rw [if_pos h3]
        unfold readN at h3 ⊢
        simp only [Bool.and_eq_true] at h3
        exact h3.2
      · simp at h
/-- What sectors are gathered to. -/
structure GS where
  body : List Nat
  nx : Fr
abbrev GR := List Nat × Int × Int
def comesN (f n : Fr) : Bool := (decide (f.lsn = n.lsn ∧ f.ep = n.ep ∧ f.ix = n.ix ∧ f.ct = n.ct) && (decide (f.ix = f.ct - 1) || decide (f.B.length = 40))) && (decide (f.ix = 0) || decide (0 < f.B.length))
def nxN (n f : Fr) : Fr := if n.ix = 0 then ⟨n.lsn, f.ep, n.ix, f.ct, []⟩ else n
def gStep (s : GS) (b : List Nat) : GS ⊕ GR :=
  if (getN b).2 ≠ 0 then .inr ([], 0, (getN b).2)
  else if comesN (getN b).1 (nxN s.nx (getN b).1) = false then .inr ([], 0, 20)
  else if s.nx.ix + 1 = (nxN s.nx (getN b).1).ct then .inr (s.body ++ (getN b).1.B, (nxN s.nx (getN b).1).ct, 0)
  else .inl ⟨s.body ++ (getN b).1.B, ⟨s.nx.lsn + 1, (nxN s.nx (getN b).1).ep, s.nx.ix + 1, (nxN s.nx (getN b).1).ct, []⟩⟩
def gRun (s : GS) : List (List Nat) → GS ⊕ GR
  | [] => .inl s
  | b :: r => match gStep s b with
    | .inl s' => gRun s' r
    | .inr x => .inr x
theorem gRun_snoc (x : List Nat) : ∀ (pre : List (List Nat)) (s : GS), gRun s (pre ++ [x]) = match gRun s pre with
    | .inl s' => gStep s' x
    | .inr r => .inr r
  | [], s => by
    simp only [List.nil_append, gRun]
    split <;> simp_all
  | b :: pre, s => by
    simp only [List.cons_append, gRun]
    cases h : gStep s b with
    | inl s' => simp only []; exact gRun_snoc x pre s'
    | inr r => simp only []
theorem gRun_more {r : GR} : ∀ (pre post : List (List Nat)) (s : GS), gRun s pre = .inr r → gRun s (pre ++ post) = .inr r
  | [], post, s, h => by simp [gRun] at h
  | b :: pre, post, s, h => by
    simp only [List.cons_append, gRun] at h ⊢
    cases hs : gStep s b with
    | inl s' => rw [hs] at h; simp only [] at h ⊢; exact gRun_more pre post s' h
    | inr x => rw [hs] at h; simp only [] at h ⊢; exact h
def gEnd : GS ⊕ GR → GR
  | .inl _ => ([], 0, 20)
  | .inr r => r
/-- What stays within bounds. -/
def gOk (s : GS) : Prop := 0 ≤ s.nx.lsn ∧ s.nx.lsn ≤ 4611686018427387904 ∧ 0 ≤ s.nx.ix ∧ s.nx.ix ≤ 65535 ∧ 0 ≤ s.nx.ct ∧ s.nx.ct ≤ 65535 ∧ (s.body.length : Int) ≤ 40 * s.nx.ix ∧ s.nx.B = []
theorem comesN_eq {f n : Fr} (h : comesN f n = true) : f.lsn = n.lsn ∧ f.ep = n.ep ∧ f.ix = n.ix ∧ f.ct = n.ct := by
  simp [comesN] at h
  exact h.1.1
theorem gStep_ok {s s' : GS} {b : List Nat} (h : gOk s) (hs : gStep s b = .inl s') : gOk s' := by
  unfold gStep at hs
  split at hs
  · cases hs
  · rename_i h1
    have hr := (rightN_iff _).1 (getN_right (by simpa using h1 : (getN b).2 = 0))
    split at hs
    · cases hs
    · rename_i h2
      have hc := comesN_eq (by simpa using h2)
      split at hs
      · cases hs
      · cases hs
        obtain ⟨g1, g2, g3, g4, g5, g6, g7, g8⟩ := h
        have hl : (nxN s.nx (getN b).1).lsn = s.nx.lsn ∧ (nxN s.nx (getN b).1).ix = s.nx.ix := by unfold nxN; split <;> simp
        refine ⟨?_, ?_, ?_, ?_, ?_, ?_, ?_, rfl⟩ <;> simp only [List.length_append] <;> omega

/-- How many frames a body needs. -/
def sectN (n : Nat) : Nat := max 1 ((n + 39) / 40)
def frameAt (lsn ep : Int) (body : List Nat) (i : Nat) : Fr := ⟨lsn + i, ep, i, (sectN body.length : Nat), (body.drop (40 * i)).take 40⟩
def sectorsOf (lsn : Int) (ep : Nat → Int) (body : List Nat) : List (List Nat) := (List.range (sectN body.length)).map (fun i => putN (frameAt lsn (ep i) body i))
def LsnOk (lsn : Int) (n : Nat) : Prop := 0 ≤ lsn ∧ lsn + sectN n ≤ 4611686018427387904 ∧ n ≤ 2621400
theorem sectN_bounds {n : Nat} (h : n ≤ 2621400) : 1 ≤ sectN n ∧ sectN n ≤ 65535 ∧ n ≤ 40 * sectN n ∧ (2 ≤ sectN n → 40 * (sectN n - 1) < n) := by
  unfold sectN; omega
theorem frameAt_right {lsn ep : Int} {body : List Nat} {i : Nat} (h : LsnOk lsn body.length) (hep : 0 ≤ ep ∧ ep ≤ 4294967295) (hi : i < sectN body.length) : rightN (frameAt lsn ep body i) = true := by
  obtain ⟨h1, h2, h3⟩ := h
  have hb := sectN_bounds h3
  rw [rightN_iff]
  unfold frameAt
  simp only [List.length_take, List.length_drop]
  refine ⟨?_, ?_, hep.1, hep.2, ?_, ?_, ?_, ?_⟩ <;> omega
theorem frameAt_B {lsn ep : Int} {body : List Nat} {i : Nat} (hB : ∀ x ∈ body, x < 256) : ∀ x ∈ (frameAt lsn ep body i).B, x < 256 := fun x hx => hB x (List.mem_of_mem_drop (List.mem_of_mem_take hx))
/-- The state behind the frames ahead of j. -/
def gAt (lsn ep : Int) (body : List Nat) (j : Nat) : GS := ⟨body.take (40 * j), ⟨lsn + j, ep, j, (sectN body.length : Nat), []⟩⟩
theorem take_more (body : List Nat) (j : Nat) : body.take (40 * j) ++ (body.drop (40 * j)).take 40 = body.take (40 * (j + 1)) := by
  rw [show 40 * (j + 1) = 40 * j + 40 by omega, List.take_add]
theorem step_frame {lsn ep e2 : Int} {body : List Nat} {j : Nat} (h : LsnOk lsn body.length) (hep : 0 ≤ e2 ∧ e2 ≤ 4294967295) (hB : ∀ x ∈ body, x < 256) (hj : j < sectN body.length) (s : GS) (hs : s.body = body.take (40 * j) ∧ s.nx.lsn = lsn + j ∧ s.nx.ix = j ∧ (j ≠ 0 → s.nx.ep = ep ∧ s.nx.ct = (sectN body.length : Nat))) :
    gStep s (putN (frameAt lsn e2 body j)) = if j ≠ 0 ∧ e2 ≠ ep then .inr ([], 0, 20) else if j + 1 = sectN body.length then .inr (body, (sectN body.length : Nat), 0) else .inl (gAt lsn e2 body (j + 1)) := by
  have hr := frameAt_right h hep hj
  have hg := getN_put _ hr (frameAt_B hB)
  have hb := sectN_bounds h.2.2
  obtain ⟨s1, s2, s3, s4⟩ := hs
  unfold gStep
  rw [hg]
  simp only [ne_eq, not_true_eq_false, if_false]
  have hlen : (frameAt lsn e2 body j).B.length = min 40 (body.length - 40 * j) := by simp [frameAt]
  by_cases hbad : j ≠ 0 ∧ e2 ≠ ep
  · have hc : comesN (frameAt lsn e2 body j) (nxN s.nx (frameAt lsn e2 body j)) = false := by
      have hx : nxN s.nx (frameAt lsn e2 body j) = s.nx := by unfold nxN; rw [if_neg (by rw [s3]; have := hbad.1; omega)]
      rw [hx]
      cases hcc : comesN (frameAt lsn e2 body j) s.nx with
      | false => rfl
      | true =>
        have := (comesN_eq hcc).2.1
        rw [(s4 hbad.1).1] at this
        exact absurd this hbad.2
    rw [if_pos hc, if_pos hbad]
  · rw [if_neg hbad]
    have hn : (nxN s.nx (frameAt lsn e2 body j)).lsn = lsn + j ∧ (nxN s.nx (frameAt lsn e2 body j)).ep = e2 ∧ (nxN s.nx (frameAt lsn e2 body j)).ix = j ∧ (nxN s.nx (frameAt lsn e2 body j)).ct = (sectN body.length : Nat) := by
      unfold nxN
      split
      · rename_i h0
        exact ⟨s2, rfl, s3, rfl⟩
      · rename_i h0
        have hj0 : j ≠ 0 := by rw [s3] at h0; omega
        have he : e2 = ep := by
          by_cases he : e2 = ep
          · exact he
          · exact absurd ⟨hj0, he⟩ hbad
        exact ⟨s2, by rw [(s4 hj0).1, he], s3, (s4 hj0).2⟩
    have hc : comesN (frameAt lsn e2 body j) (nxN s.nx (frameAt lsn e2 body j)) = true := by
      unfold comesN
      rw [hn.1, hn.2.1, hn.2.2.1, hn.2.2.2, hlen]
      have e1 : (frameAt lsn e2 body j).lsn = lsn + j := rfl
      have e2' : (frameAt lsn e2 body j).ep = e2 := rfl
      have e3 : (frameAt lsn e2 body j).ix = j := rfl
      have e4 : (frameAt lsn e2 body j).ct = (sectN body.length : Nat) := rfl
      rw [e1, e2', e3, e4]
      generalize sectN body.length = c at *
      generalize body.length = n at *
      have hq : ((j : Int) = (c : Int) - 1 ∨ min 40 (n - 40 * j) = 40) ∧ ((j : Int) = 0 ∨ 0 < min 40 (n - 40 * j)) := by omega
      simp only [and_self, decide_true, Bool.true_and, Bool.and_eq_true, Bool.or_eq_true, decide_eq_true_eq]
      exact hq
    rw [if_neg (by rw [hc]; simp), hn.2.2.2, s1, s3]
    by_cases hlast : j + 1 = sectN body.length
    · rw [if_pos (by omega), if_pos hlast]
      have e1 : body.take (40 * j) ++ (frameAt lsn e2 body j).B = body.take (40 * (j + 1)) := take_more body j
      rw [e1, hlast, List.take_of_length_le hb.2.2.1]
    · rw [if_neg (by omega), if_neg hlast]
      unfold gAt
      rw [hn.2.1, s2]
      have e1 : body.take (40 * j) ++ (frameAt lsn e2 body j).B = body.take (40 * (j + 1)) := take_more body j
      rw [e1]
      simp only [Int.natCast_add, Int.natCast_one, Sum.inl.injEq, GS.mk.injEq, Fr.mk.injEq, true_and, and_true]
      omega
def framesFrom (lsn : Int) (ep : Nat → Int) (body : List Nat) (j : Nat) : List (List Nat) := (List.range' j (sectN body.length - j)).map (fun i => putN (frameAt lsn (ep i) body i))
theorem framesFrom_cons {lsn : Int} {ep : Nat → Int} {body : List Nat} {j : Nat} (hj : j < sectN body.length) : framesFrom lsn ep body j = putN (frameAt lsn (ep j) body j) :: framesFrom lsn ep body (j + 1) := by
  unfold framesFrom
  rw [show sectN body.length - j = (sectN body.length - (j + 1)) + 1 by omega, List.range'_succ, List.map_cons]
theorem run_from {lsn : Int} {ep : Nat → Int} {body : List Nat} (h : LsnOk lsn body.length) (hep : ∀ i, 0 ≤ ep i ∧ ep i ≤ 4294967295) (hB : ∀ x ∈ body, x < 256) (e0 : Int) : ∀ (k j : Nat), j + k = sectN body.length → 1 ≤ j → 1 ≤ k →
    (gRun (gAt lsn e0 body j) (framesFrom lsn ep body j) = .inr (body, (sectN body.length : Nat), 0) ∧ ∀ i, j ≤ i → i < sectN body.length → ep i = e0) ∨ (gRun (gAt lsn e0 body j) (framesFrom lsn ep body j) = .inr ([], 0, 20) ∧ ∃ i, j ≤ i ∧ i < sectN body.length ∧ ep i ≠ e0)
  | k + 1, j, hjk, h1, _ => by
    have hj : j < sectN body.length := by omega
    rw [framesFrom_cons hj]
    simp only [gRun]
    rw [step_frame (ep := e0) h (hep j) hB hj (gAt lsn e0 body j) ⟨rfl, rfl, rfl, fun _ => ⟨rfl, rfl⟩⟩]
    by_cases he : ep j = e0
    · rw [if_neg (by simp [he])]
      by_cases hlast : j + 1 = sectN body.length
      · rw [if_pos hlast]
        simp only []
        exact .inl ⟨trivial, fun i hi hi2 => by rw [show i = j by omega]; exact he⟩
      · rw [if_neg hlast, he]
        simp only []
        rcases run_from h hep hB e0 k (j + 1) (by omega) (by omega) (by omega) with ⟨a, b⟩ | ⟨a, i, b⟩
        · refine .inl ⟨a, fun i hi hi2 => ?_⟩
          by_cases hij : i = j
          · rw [hij]; exact he
          · exact b i (by omega) hi2
        · exact .inr ⟨a, i, by omega, b.2⟩
    · rw [if_pos ⟨by omega, he⟩]
      simp only []
      exact .inr ⟨trivial, j, Nat.le_refl _, hj, he⟩
theorem gather_spread {lsn : Int} {ep : Nat → Int} {body : List Nat} (h : LsnOk lsn body.length) (hep : ∀ i, 0 ≤ ep i ∧ ep i ≤ 4294967295) (hB : ∀ x ∈ body, x < 256) :
    (gRun ⟨[], ⟨lsn, 0, 0, 0, []⟩⟩ (sectorsOf lsn ep body) = .inr (body, (sectN body.length : Nat), 0) ∧ ∀ i, i < sectN body.length → ep i = ep 0) ∨ (gRun ⟨[], ⟨lsn, 0, 0, 0, []⟩⟩ (sectorsOf lsn ep body) = .inr ([], 0, 20) ∧ ∃ i, i < sectN body.length ∧ ep i ≠ ep 0) := by
  have hb := sectN_bounds h.2.2
  have e : sectorsOf lsn ep body = framesFrom lsn ep body 0 := by
    unfold sectorsOf framesFrom
    rw [List.range_eq_range', Nat.sub_zero]
  rw [e, framesFrom_cons (by omega)]
  simp only [gRun]
  rw [step_frame (ep := 0) h (hep 0) hB (by omega) _ ⟨by simp, by simp, rfl, fun h => absurd rfl h⟩, if_neg (by simp)]
  by_cases hlast : 0 + 1 = sectN body.length
  · rw [if_pos hlast]
    simp only []
    exact .inl ⟨trivial, fun i hi => by rw [show i = 0 by omega]⟩
  · rw [if_neg hlast]
    simp only []
    rcases run_from h hep hB (ep 0) (sectN body.length - 1) 1 (by omega) (by omega) (by omega) with ⟨a, b⟩ | ⟨a, i, b⟩
    · refine .inl ⟨a, fun i hi => ?_⟩
      by_cases hi0 : i = 0
      · rw [hi0]
      · exact b i (by omega) hi
    · exact .inr ⟨a, i, b.2⟩

/-- Bytes in sectors, as many as there are. -/
def chunkN (B : List Nat) : List (List Nat) := (List.range ((B.length + 63) / 64)).map (fun i => (B.drop (64 * i)).take 64)
theorem chunkN_length (B : List Nat) : (chunkN B).length = (B.length + 63) / 64 := by simp [chunkN]
theorem flat_len : ∀ (L : List (List Nat)), (∀ x ∈ L, x.length = 64) → L.flatten.length = 64 * L.length
  | [], _ => rfl
  | x :: L, h => by
    rw [List.flatten_cons, List.length_append, h x (by simp), flat_len L (fun y hy => h y (by simp [hy])), List.length_cons]; omega
theorem flat_at : ∀ (L : List (List Nat)) (i : Nat) (hi : i < L.length), (∀ x ∈ L, x.length = 64) → (L.flatten.drop (64 * i)).take 64 = L[i]
  | x :: L, 0, _, h => by
    simp only [Nat.mul_zero, List.drop_zero, List.flatten_cons, List.getElem_cons_zero]
    rw [List.take_left' (h x (by simp))]
  | x :: L, i + 1, hi, h => by
    have hx := h x (by simp)
    rw [List.flatten_cons, show 64 * (i + 1) = x.length + 64 * i by omega, ← List.drop_drop, List.drop_left', List.getElem_cons_succ]
    · exact flat_at L i (by simpa using hi) (fun y hy => h y (by simp [hy]))
    · rfl
theorem chunk_flat (L : List (List Nat)) (h : ∀ x ∈ L, x.length = 64) : chunkN L.flatten = L := by
  have hl := flat_len L h
  apply List.ext_getElem
  · rw [chunkN_length, hl]; omega
  · intro i h1 h2
    simp only [chunkN, List.getElem_map, List.getElem_range]
    exact flat_at L i h2 h
theorem sectorsOf_length (lsn : Int) (ep : Nat → Int) (body : List Nat) : (sectorsOf lsn ep body).length = sectN body.length := by simp [sectorsOf]
theorem sectorsOf_64 {lsn : Int} {ep : Nat → Int} {body : List Nat} : ∀ x ∈ sectorsOf lsn ep body, x.length = 64 := by
  intro x hx
  simp only [sectorsOf, List.mem_map] at hx
  obtain ⟨i, _, rfl⟩ := hx
  exact putN_length _ (by simp [frameAt]; omega)
end Go.Proofs.Ytbbhchmdggfncaa


/-
  Laws of our own: blocks of cells known whole ('Blk'), what a piece of work keeps ('Kept'), and the run of operations on values of many cells. No condition beyond each law's own premises. Nothing of a program's dump is used here.
-/
namespace Go.Proofs.Ytbbhchmdggfncaa
open Go.RowKit
set_option linter.unusedSimpArgs false
set_option linter.unusedVariables false
set_option maxRecDepth 100000

theorem hide {p : Prop} (h : p) : Hid p := h

/-- The block b holds just the cells L, none frozen; its elements are of type t. -/
def Blk (w : World) (b : Nat) (L : List Value) (t : TypeId) : Prop := w.heap[b]? = some (.cells L.toArray t (0, 0))

theorem Blk.lt {w : World} {b : Nat} {L : List Value} {t : TypeId} (h : Blk w b L t) : b < w.heap.size := (Array.getElem?_eq_some_iff.1 h).1

theorem Blk.cell {w : World} {b : Nat} {L : List Value} {t : TypeId} (h : Blk w b L t) (i : Nat) : w.cell? ⟨b, i, none⟩ = L[i]? := by
  unfold Blk at h; simp [World.cell?, h]

theorem Blk.frozen {w : World} {b : Nat} {L : List Value} {t : TypeId} (h : Blk w b L t) (i : Nat) : w.frozen? ⟨b, i, none⟩ = false := by
  unfold Blk at h; simp [World.frozen?, h]

theorem Blk.ne {w : World} {b c : Nat} {L M : List Value} {t u : TypeId} (h : Blk w b L t) (k : Blk w c M u) (hne : t ≠ u) : b ≠ c := by
  intro e; subst e; unfold Blk at h k; rw [h] at k; simp at k; exact hne k.2

theorem Blk.same {w : World} {b : Nat} {L M : List Value} {t u : TypeId} (h : Blk w b L t) (k : Blk w b M u) : L = M ∧ t = u := by
  unfold Blk at h k; rw [h] at k; simp at k; exact k

/-- All old blocks but those of S are as they were. -/
structure Kept (S : Nat → Prop) (w w' : World) : Prop where
  os : w'.os = w.os
  tape : w'.tape = w.tape
  output : w'.output = w.output
  size : w.heap.size ≤ w'.heap.size
  block : ∀ k, k < w.heap.size → ¬ S k → w'.heap[k]? = w.heap[k]?

theorem Kept.refl (S : Nat → Prop) (w : World) : Kept S w w := ⟨rfl, rfl, rfl, Nat.le_refl _, fun _ _ _ => rfl⟩

theorem Kept.trans {S T : Nat → Prop} {a b c : World} (h : Kept S a b) (k : Kept T b c) (hs : ∀ i, i < a.heap.size → T i → S i) : Kept S a c :=
  ⟨k.os.trans h.os, k.tape.trans h.tape, k.output.trans h.output, Nat.le_trans h.size k.size,
   fun i hi hn => (k.block i (Nat.lt_of_lt_of_le hi h.size) (fun t => hn (hs i hi t))).trans (h.block i hi hn)⟩

theorem Kept.mono {S T : Nat → Prop} {a b : World} (h : Kept S a b) (hs : ∀ i, i < a.heap.size → S i → T i) : Kept T a b :=
  ⟨h.os, h.tape, h.output, h.size, fun i hi hn => h.block i hi (fun t => hn (hs i hi t))⟩

theorem Kept.blk {S : Nat → Prop} {w w' : World} {b : Nat} {L : List Value} {t : TypeId} (h : Kept S w w') (hb : Blk w b L t) (hn : ¬ S b) : Blk w' b L t :=
  (h.block b hb.lt hn).trans hb

theorem Kept.drew {S : Nat → Prop} {a w : World} (h : Kept S a w) : Kept S a w.drew := ⟨h.os, h.tape, h.output, h.size, h.block⟩

theorem Kept.below {w w' : World} (h : Kept (fun _ => False) w w') : Below w.heap.size w w' :=
  ⟨h.os, h.tape, h.output, h.size, fun k hk => h.block k hk (fun h => h)⟩

theorem Kept.of_grown {w w' : World} {row : Option Nat} (h : w.grownBy w' row) : Kept (fun k => row = some k) w w' :=
  ⟨h.os, h.tape, h.output, h.size, fun k hk hn => h.block k hk (fun e => hn e.symm)⟩

theorem Kept.alloc (S : Nat → Prop) (w : World) (o : Obj) : Kept S w (w.alloc o) :=
  ⟨rfl, rfl, rfl, by simp, fun k hk _ => Below.heap_alloc w o k hk⟩

theorem Kept.setRow {S : Nat → Prop} (w : World) (g : Nat) (cs : Array Value) (hg : S g) : Kept S w (w.setRow g cs) :=
  ⟨rfl, rfl, rfl, by simp [World.setRow], fun k _ hn => setRow_other w g k cs (fun e => hn (e ▸ hg))⟩

theorem Kept.setCell {S : Nat → Prop} (w : World) (a : Addr) (v : Value) (hg : S a.block) : Kept S w (w.setCell a v) :=
  ⟨rfl, rfl, rfl, by simp [World.setCell], fun k _ hn => Below.heap_setCell w a v k (fun e => hn (e ▸ hg))⟩

theorem Blk.drew {w : World} {b : Nat} {L : List Value} {t : TypeId} (h : Blk w b L t) : Blk w.drew b L t := h

theorem Blk.new (w : World) (L : List Value) (t : TypeId) : Blk (w.alloc (.cells L.toArray t)) w.heap.size L t := heap_alloc_new w _

theorem Blk.newA (w : World) (c : Array Value) (t : TypeId) : Blk (w.alloc (.cells c t)) w.heap.size c.toList t := by
  have := heap_alloc_new w (.cells c t); unfold Blk; simpa using this

theorem Blk.setRow {w : World} {b : Nat} {L : List Value} {t : TypeId} (h : Blk w b L t) (M : List Value) : Blk (w.setRow b M.toArray) b M t :=
  setRow_heap w b _ _ t _ h

theorem Blk.setCell {w : World} {b : Nat} {L : List Value} {t : TypeId} (h : Blk w b L t) (i : Nat) (v : Value) : Blk (w.setCell ⟨b, i, none⟩ v) b (L.set i v) t := by
  have hlt := h.lt
  have hv : w.heap[b] = .cells L.toArray t (0, 0) := (Array.getElem?_eq_some_iff.1 h).2
  unfold Blk World.setCell
  rw [Array.getElem?_eq_getElem (by simpa using hlt), Array.getElem_modify]
  simp [hv]

/-- A step whose run is known. -/
theorem wpList_run {P : Program} {ops : Array Oper} {Q : Exit → Act → World → Prop} {a : Act} {w w' : World} {rest : List Oper} {o : Oper} {v : Value} (hg : o.guard = none)
    (hr : (execOp a.eval o).run P w = .ok (.value v) w') (h : wpList P ops Q rest (a.put o.dst v) w') : wpList P ops Q (o :: rest) a w :=
  wpList_plain hg fun K hK => by unfold Oper.wp; rw [hr]; exact hK _ _ h

theorem wpList_run_skip {P : Program} {ops : Array Oper} {Q : Exit → Act → World → Prop} {a : Act} {w w' : World} {rest : List Oper} {o : Oper} (hg : o.guard = none)
    (hr : (execOp a.eval o).run P w = .ok .skip w') (h : wpList P ops Q rest (a.put o.dst undef) w') : wpList P ops Q (o :: rest) a w :=
  wpList_plain hg fun K hK => by unfold Oper.wp; rw [hr]; exact hK _ _ h

theorem wpStill_run {P : Program} {ops : Array Oper} {Q : Act → Prop} {a : Act} {w : World} {rest : List Oper} {o : Oper} {v : Value} (hg : o.guard = none)
    (hr : (execOp a.eval o).run P w = .ok (.value v) w) (h : wpStill P ops w Q rest (a.put o.dst v)) : wpStill P ops w Q (o :: rest) a :=
  wpStill_step fun K hK => by
    simp only [Region.wanted, hg, if_true]
    unfold Oper.still; rw [hr]; exact ⟨rfl, hK _ h⟩

theorem addr_add (b off j : Nat) : (⟨b, off, none⟩ : Addr).add j = ⟨b, off + j, none⟩ := by
  unfold Addr.add; split <;> simp_all

/-- What an aggregate's type tells: its size. -/
def aggSize (P : Program) (t : TypeId) (n : Nat) : Prop := (∃ i, P.info? t = some i ∧ i.size = n) ∧ (∃ d, P.underlying t = some d ∧ ((∃ k e, d = .array k e) ∨ (∃ fs, d = .struct fs)))

theorem run_isAgg {P : Program} {t : TypeId} {n : Nat} (h : aggSize P t n) (w : World) : (isAgg t).run P w = .ok true w := by
  obtain ⟨_, d, hd, hk⟩ := h
  rcases hk with ⟨k, e, rfl⟩ | ⟨fs, rfl⟩ <;> simp [isAgg, run_underlying hd]

theorem run_sizeOf {P : Program} {t : TypeId} {n : Nat} (h : aggSize P t n) (w : World) : (sizeOf t).run P w = .ok n w := by
  obtain ⟨⟨i, hi, rfl⟩, _⟩ := h
  simp [sizeOf, typeInfo, hi]

theorem run_load_agg {P : Program} {ρ : Operand → Value} {w : World} {dst : Option Tmp} {t ty : TypeId} {x : Operand} {pos : String} {aft : Array Edge} {gd : Option (Nat × Bool)} {b off n : Nat} {L : List Value} {e : TypeId}
    (ht : aggSize P t n) (hx : ρ x = .pointer (some ⟨b, off, none⟩)) (hb : Blk w b L e) (hl : off + n ≤ L.length) :
    (execOp ρ ⟨dst, .load t x, ty, pos, aft, gd⟩).run P w = .ok (.value (.agg ((L.drop off).take n).toArray)) w := by
  have hlen : ((L.drop off).take n).length = n := by simp; omega
  have hc := run_loadCells_list (P := P) w ⟨b, off, none⟩ ((L.drop off).take n) (fun j v hj => by
    rw [addr_add, hb.cell]
    have hjn : j < n := by
      rcases Nat.lt_or_ge j n with h | h
      · exact h
      · rw [List.getElem?_eq_none (by rw [hlen]; exact h)] at hj; cases hj
    rw [List.getElem?_take] at hj
    simp [hjn] at hj
    exact hj)
  rw [hlen] at hc
  simp [execOp, Instr.loadAt, hx, Instr.sureAddr, loadVar, run_isAgg ht, run_sizeOf ht, hc]

theorem run_store_agg {P : Program} {ρ : Operand → Value} {w : World} {dst : Option Tmp} {t ty : TypeId} {x y : Operand} {pos : String} {aft : Array Edge} {gd : Option (Nat × Bool)} {b off n : Nat} {L M : List Value} {e : TypeId}
    (ht : aggSize P t n) (hx : ρ x = .pointer (some ⟨b, off, none⟩)) (hy : ρ y = .agg M.toArray) (hM : M.length = n) (h1 : ∀ v ∈ M, v.oneCell' = true) (hb : Blk w b L e) (hl : off + n ≤ L.length) :
    (execOp ρ ⟨dst, .store t x y, ty, pos, aft, gd⟩).run P w = .ok .skip (w.setRow b (L.take off ++ M ++ L.drop (off + n)).toArray) := by
  have hs := run_storeCells_at (P := P) b off e M 0 L.toArray w hb (by simp; omega) h1
  simp [execOp, Instr.storeAt, hx, hy, Instr.sureAddr, storeVar, Value.cells, run_sizeOf ht, hM]
  simp [hM] at hs
  rw [hs]
  simp

theorem run_alloc_agg {P : Program} {ρ : Operand → Value} {w : World} {dst : Option Tmp} {t ty : TypeId} {pos : String} {aft : Array Edge} {gd : Option (Nat × Bool)} {i : TypeInfo} {z : Value}
    (hi : P.info? t = some i) (hz : i.zero = some z) :
    (execOp ρ ⟨dst, .alloc t, ty, pos, aft, gd⟩).run P w = .ok (.value (.pointer (some ⟨w.heap.size, 0, none⟩))) (w.alloc (.cells z.cells t)) := by
  simp [execOp, Instr.alloc, zeroValue, typeInfo, hi, hz, newVar, newRow]

theorem run_box_agg {P : Program} {ρ : Operand → Value} {w : World} {dst : Option Tmp} {t ty : TypeId} {x : Operand} {pos : String} {aft : Array Edge} {gd : Option (Nat × Bool)} :
    (execOp ρ ⟨dst, .box t x, ty, pos, aft, gd⟩).run P w = .ok (.value (.pointer (some ⟨w.heap.size, 0, none⟩))) (w.alloc (.cells (ρ x).cells t)) := by
  simp [execOp, Instr.box, newVar, newRow]

theorem madeCells_rep (z : Value) (m : Nat) (hm : 0 < m) (n : Nat) : madeCells (List.replicate m z).toArray n = (List.replicate n z).toArray := by
  apply Array.ext
  · simp [madeCells]
  · intro i h1 h2
    have : i % m < m := Nat.mod_lt _ hm
    simp [madeCells, this]

theorem run_make_op {P : Program} {ρ : Operand → Value} {w : World} {dst : Option Tmp} {t ty e : TypeId} {l c : Operand} {pos : String} {aft : Array Edge} {gd : Option (Nat × Bool)} {i : TypeInfo} {z : Value}
    (m : Nat) (hm : 0 < m) (ht : P.underlying t = some (.slice e)) (hi : P.info? e = some i) {zc : Value} (hz : i.zero = some zc) (hzc : zc.cells = (List.replicate m z).toArray) (hsz : i.size = m) (n : Nat)
    {kl kc : IntKind} (hl : ρ l = .int kl n) (hc : ρ c = .int kc n) (hb : i.bytes * n ≤ 281474976710656) (h63 : n ≤ maxLen) :
    (execOp ρ ⟨dst, .makeSlice t l c, ty, pos, aft, gd⟩).run P w = .ok (.value (.slice (some ⟨w.heap.size, 0, none⟩) n n)) (w.alloc (.cells (List.replicate (n * m) z).toArray e)) := by
  have h := run_make (P := P) w t e i zc ht hi hz kl kc (n : Int) (n : Int) (by omega) (by omega) (by have := Int.ofNat_le.2 hb; rw [Int.natCast_mul] at this; exact this) (by unfold maxLen at h63; omega)
  simp only [Int.toNat_natCast, hzc, hsz, madeCells_rep z m hm] at h
  simp [execOp, hl, hc, h]

/-- M laid over L from off on. -/
def put (L : List Value) (off : Nat) (M : List Value) : List Value := L.take off ++ M ++ L.drop (off + M.length)

theorem length_put (L : List Value) (off : Nat) (M : List Value) (h : off + M.length ≤ L.length) : (put L off M).length = L.length := by
  simp [put]; omega

theorem put_whole (Z M : List Value) (h : Z.length = M.length) : put Z 0 M = M := by
  unfold put; rw [List.drop_eq_nil_of_le (by omega)]; simp

section
variable {P : Program} {ops : Array Oper} {Q : Exit → Act → World → Prop} {a : Act} {w : World} {rest : List Oper} {dst : Option Tmp} {ty : TypeId} {pos : String} {aft : Array Edge}

/-- For walking by hand: the walk stands still at this goal. -/
theorem stop_store (t : TypeId) {x y : Operand} (h : Hid (wpList P ops Q (⟨dst, .store t x y, ty, pos, aft, none⟩ :: rest) a w)) : wpList P ops Q (⟨dst, .store t x y, ty, pos, aft, none⟩ :: rest) a w := h.out
theorem stop_load (t : TypeId) {x : Operand} (h : Hid (wpList P ops Q (⟨dst, .load t x, ty, pos, aft, none⟩ :: rest) a w)) : wpList P ops Q (⟨dst, .load t x, ty, pos, aft, none⟩ :: rest) a w := h.out

theorem aw_alloc {t : TypeId} {i : TypeInfo} {z : Value} (hi : P.info? t = some i) (hz : i.zero = some z)
    (h : ∀ w', Blk w' w.heap.size z.cells.toList t → Kept (fun _ => False) w w' → w'.heap.size = w.heap.size + 1 → wpList P ops Q rest (a.put dst (.pointer (some ⟨w.heap.size, 0, none⟩))) w') :
    wpList P ops Q (⟨dst, .alloc t, ty, pos, aft, none⟩ :: rest) a w :=
  wpList_run rfl (run_alloc_agg hi hz) (h _ (Blk.newA w _ t) (Kept.alloc _ w _) (by simp))

theorem aw_box {t : TypeId} {x : Operand} {v : Value} (hx : a.eval x = v)
    (h : ∀ w', Blk w' w.heap.size v.cells.toList t → Kept (fun _ => False) w w' → w'.heap.size = w.heap.size + 1 → wpList P ops Q rest (a.put dst (.pointer (some ⟨w.heap.size, 0, none⟩))) w') :
    wpList P ops Q (⟨dst, .box t x, ty, pos, aft, none⟩ :: rest) a w :=
  wpList_run rfl run_box_agg (by rw [hx]; exact h _ (Blk.newA w _ t) (Kept.alloc _ w _) (by simp))

theorem aw_load {t : TypeId} {x : Operand} {b off n : Nat} {L M : List Value} {e : TypeId} (ht : aggSize P t n) (hx : a.eval x = .pointer (some ⟨b, off, none⟩)) (hb : Blk w b L e) (hl : off + n ≤ L.length) (hM : (L.drop off).take n = M)
    (h : wpList P ops Q rest (a.put dst (.agg M.toArray)) w) : wpList P ops Q (⟨dst, .load t x, ty, pos, aft, none⟩ :: rest) a w := by
  subst hM
  exact wpList_run rfl (run_load_agg ht hx hb hl) h

theorem aw_store {t : TypeId} {x y : Operand} {b off n : Nat} {L M : List Value} {e : TypeId} (ht : aggSize P t n) (hx : a.eval x = .pointer (some ⟨b, off, none⟩)) (hy : a.eval y = .agg M.toArray) (hM : M.length = n)
    (h1 : ∀ v ∈ M, v.oneCell' = true) (hb : Blk w b L e) (hl : off + n ≤ L.length)
    (h : ∀ w', Blk w' b (put L off M) e → Kept (fun k => k = b) w w' → w'.heap.size = w.heap.size → wpList P ops Q rest (a.put dst undef) w') : wpList P ops Q (⟨dst, .store t x y, ty, pos, aft, none⟩ :: rest) a w := by
  have hr := run_store_agg (P := P) (ρ := a.eval) (dst := dst) (ty := ty) (pos := pos) (aft := aft) (gd := none) ht hx hy hM h1 hb hl
  refine wpList_run_skip rfl hr (h _ ?_ (Kept.setRow (S := fun k => k = b) w b _ rfl) (by simp [World.setRow]))
  have := hb.setRow (L.take off ++ M ++ L.drop (off + n))
  unfold put; rw [hM]; exact this

theorem aw_make {t e : TypeId} {l c : Operand} {i : TypeInfo} {z : Value} (m : Nat) (hm : 0 < m) (ht : P.underlying t = some (.slice e)) (hi : P.info? e = some i) {zc : Value} (hz : i.zero = some zc) (hzc : zc.cells = (List.replicate m z).toArray) (hsz : i.size = m)
    (n : Nat) {kl kc : IntKind} (hl : a.eval l = .int kl n) (hc : a.eval c = .int kc n) (hb : i.bytes * n ≤ 281474976710656) (h63 : n ≤ maxLen)
    (h : ∀ w', Blk w' w.heap.size (List.replicate (n * m) z) e → Kept (fun _ => False) w w' → w'.heap.size = w.heap.size + 1 → wpList P ops Q rest (a.put dst (.slice (some ⟨w.heap.size, 0, none⟩) n n)) w') :
    wpList P ops Q (⟨dst, .makeSlice t l c, ty, pos, aft, none⟩ :: rest) a w :=
  wpList_run rfl (run_make_op m hm ht hi hz hzc hsz n hl hc hb h63) (h _ (Blk.new w _ e) (Kept.alloc _ w _) (by simp))

theorem run_copy_blk {dT sT elem : TypeId} {i : TypeInfo} {g off dLen dCap b so sLen sCap : Nat} {G L : List Value} {tg tb : TypeId} (hu : P.underlying dT = some (.slice elem)) (hi : P.info? elem = some i)
    (m : Nat) (hm : m = Nat.min sLen dLen) (hg : Blk w g G tg) (hb : Blk w b L tb) (hs : so + m * i.size ≤ L.length) (hd : off + m * i.size ≤ G.length) (h1 : ∀ v ∈ L, v.oneCell' = true) :
    (Builtin.copy_ #[dT, sT] ty #[.slice (some ⟨g, off, none⟩) dLen dCap, .slice (some ⟨b, so, none⟩) sLen sCap]).run P w =
      .ok (goInt m) (w.setRow g (put G off ((L.drop so).take (m * i.size))).toArray) := by
  have hlen : ((L.drop so).take (m * i.size)).length = m * i.size := by simp; omega
  have hl := run_firstCells_some (P := P) w i.size m ⟨b, so, none⟩ sLen sCap ((L.drop so).take (m * i.size)) hlen (fun j v hj => by
    rw [addr_add, hb.cell]
    have hjn : j < m * i.size := by
      rcases Nat.lt_or_ge j (m * i.size) with h | h
      · exact h
      · rw [List.getElem?_eq_none (by rw [hlen]; exact h)] at hj; cases hj
    rw [List.getElem?_take] at hj
    simp [hjn] at hj
    exact hj)
  have hst := run_storeCells_at P g off tg ((L.drop so).take (m * i.size)) 0 G.toArray w hg (by simp; omega) (fun v hv => h1 v (List.mem_of_mem_drop (List.mem_of_mem_take hv)))
  rw [hlen] at hst
  have hp : put G off ((L.drop so).take (m * i.size)) = G.take (off + 0) ++ (L.drop so).take (m * i.size) ++ G.drop (off + 0 + m * i.size) := by
    unfold put; rw [hlen]; simp
  rw [hp]
  simp only at hst
  simp [Builtin.copy_, run_underlying hu, Builtin.lenOf, sizeOf, typeInfo, hi, ← hm, hl, hst]

theorem aw_copy {d s : Operand} {dT sT elem : TypeId} {i : TypeInfo} {g off dLen dCap b so sLen sCap : Nat} {G L : List Value} {tg tb : TypeId} (hu : P.underlying dT = some (.slice elem)) (hi : P.info? elem = some i) (sz : Nat) (hsz : i.size = sz)
    (hd : a.eval d = .slice (some ⟨g, off, none⟩) dLen dCap) (hs : a.eval s = .slice (some ⟨b, so, none⟩) sLen sCap)
    (m : Nat) (hm : m = min sLen dLen) (hg : Blk w g G tg) (hb : Blk w b L tb) (hso : so + m * sz ≤ L.length) (hdo : off + m * sz ≤ G.length) (h1 : ∀ v ∈ L, v.oneCell' = true)
    (h : ∀ w', Blk w' g (put G off ((L.drop so).take (m * sz))) tg → Kept (fun k => k = g) w w' → w'.heap.size = w.heap.size → wpList P ops Q rest (a.put dst (goInt m)) w') :
    wpList P ops Q (⟨dst, .call { callee := .builtin .copy, args := #[d, s], argTypes := #[dT, sT] }, ty, pos, aft, none⟩ :: rest) a w := by
  subst hsz
  refine wpList_run rfl ?_ (h _ (hg.setRow _) (Kept.setRow (S := fun k => k = g) w g _ rfl) (by simp [World.setRow]))
  have hr := run_copy_blk (P := P) (ty := ty) (dT := dT) (sT := sT) (elem := elem) (dLen := dLen) (dCap := dCap) (sLen := sLen) (sCap := sCap) (so := so) (off := off) hu hi m hm hg hb hso hdo h1
  simp [execOp, resolve, invoke, builtin, hd, hs, hr]

end

/-- The cells M lie from ⟨b, so⟩ on. -/
def Cells (w : World) (b so : Nat) (M : List Value) : Prop := ∀ (j : Nat) (v : Value), M[j]? = some v → w.cell? ⟨b, so + j, none⟩ = some v

theorem Blk.cells {w : World} {b : Nat} {L : List Value} {t : TypeId} (h : Blk w b L t) (so n : Nat) : Cells w b so ((L.drop so).take n) := by
  intro j v hj
  rw [h.cell]
  rw [List.getElem?_take] at hj
  split at hj
  · rw [List.getElem?_drop] at hj; exact hj
  · cases hj

theorem Cells.part {w : World} {b so : Nat} {M : List Value} (h : Cells w b so M) (o n : Nat) : Cells w b (so + o) ((M.drop o).take n) := by
  intro j v hj
  rw [List.getElem?_take] at hj
  split at hj
  · rw [List.getElem?_drop] at hj
    have := h _ v hj
    rw [Nat.add_assoc]; exact this
  · cases hj

theorem Kept.cells {S : Nat → Prop} {w w' : World} {b so : Nat} {M : List Value} (h : Kept S w w') (hc : Cells w b so M) (hn : ¬ S b) : Cells w' b so M := by
  intro j v hj
  have h1 := hc j v hj
  exact (World.cell?_of_block (h.block b (World.block_lt_of_cell? w _ h1) hn)).trans h1

theorem aw_copyC {P : Program} {ops : Array Oper} {Q : Exit → Act → World → Prop} {a : Act} {w : World} {rest : List Oper} {dst : Option Tmp} {ty : TypeId} {pos : String} {aft : Array Edge} {d s : Operand} {dT sT elem : TypeId} {i : TypeInfo} {g off dLen dCap b so sLen sCap : Nat} {G M : List Value} {tg : TypeId} (hu : P.underlying dT = some (.slice elem)) (hi : P.info? elem = some i) (sz : Nat) (hsz : i.size = sz)
    (hd : a.eval d = .slice (some ⟨g, off, none⟩) dLen dCap) (hs : a.eval s = .slice (some ⟨b, so, none⟩) sLen sCap)
    (m : Nat) (hm : m = min sLen dLen) (hg : Blk w g G tg) (hb : Cells w b so M) (hM : M.length = m * sz) (hdo : off + m * sz ≤ G.length) (h1 : ∀ v ∈ M, v.oneCell' = true)
    (h : ∀ w', Blk w' g (put G off M) tg → Kept (fun k => k = g) w w' → w'.heap.size = w.heap.size → wpList P ops Q rest (a.put dst (goInt m)) w') :
    wpList P ops Q (⟨dst, .call { callee := .builtin .copy, args := #[d, s], argTypes := #[dT, sT] }, ty, pos, aft, none⟩ :: rest) a w := by
  subst hsz
  refine wpList_run rfl ?_ (h _ (hg.setRow _) (Kept.setRow (S := fun k => k = g) w g _ rfl) (by simp [World.setRow]))
  have hl := run_firstCells_some (P := P) w i.size m ⟨b, so, none⟩ sLen sCap M hM (fun j v hj => by rw [addr_add]; exact hb j v hj)
  have hst := run_storeCells_at P g off tg M 0 G.toArray w hg (by simp; omega) h1
  have hp : put G off M = G.take (off + 0) ++ M ++ G.drop (off + 0 + M.length) := by unfold put; simp
  rw [hp]
  simp only at hst
  have hm' : m = Nat.min sLen dLen := hm
  simp [execOp, resolve, invoke, builtin, hd, hs, Builtin.copy_, run_underlying hu, Builtin.lenOf, sizeOf, typeInfo, hi, ← hm', hl, hst]

/-- A region that draws its order, all but a forced tail of which only reads. -/
theorem region_tail {P : Program} {id : Nat} {Q : Exit → Act → World → Prop} {a : Act} {w : World} {l : List Oper} (n : Nat) (hm : P.follows .mixedOrders = true) (hB : Region.lexTailB .any l.toArray n = true)
    (h : ∀ w', Kept (fun _ => False) w w' → w'.heap.size = w.heap.size → wpStill P l.toArray w' (fun a' => wpList P l.toArray Q (l.drop n) a' w') (l.take n) a) : (Code.region id l.toArray true).wp P Q a w :=
  wp_region_still_tail n hm hB (h _ ⟨rfl, rfl, rfl, Nat.le_refl _, fun _ _ _ => rfl⟩ rfl)

theorem run_slice_lo {P : Program} {ρ : Operand → Value} {w : World} {dst : Option Tmp} {t ty elem : TypeId} {x lo : Operand} {pos : String} {aft : Array Edge} {gd : Option (Nat × Bool)} {i : TypeInfo} {b off len cap : Nat} {k : IntKind}
    (ht : P.underlying t = some (.slice elem)) (hi : P.info? elem = some i) (hx : ρ x = .slice (some ⟨b, off, none⟩) len cap) (l : Nat) (hlo : ρ lo = .int k l) (hl : l ≤ len) (hc : l < cap) :
    (execOp ρ ⟨dst, .slice t x (some lo) none none, ty, pos, aft, gd⟩).run P w = .ok (.value (.slice (some ⟨b, off + l * i.size, none⟩) (len - l) (cap - l))) w := by
  have h1 : ¬ cap = l := by omega
  have h2 : (0 : Int) ≤ (l : Int) ∧ (l : Int) ≤ (len : Int) := by omega
  simp [execOp, Instr.sliceAt, run_underlying ht, Instr.slice, hx, hlo, Instr.sliceBounds, Instr.sliceBound, asIntOf, h2, hl, sizeOf, typeInfo, hi, h1, addr_add]

theorem run_slice_any {P : Program} {ρ : Operand → Value} {w : World} {dst : Option Tmp} {t ty elem : TypeId} {x lo : Operand} {pos : String} {aft : Array Edge} {gd : Option (Nat × Bool)} {i : TypeInfo} {b off len cap : Nat} {k : IntKind}
    (ht : P.underlying t = some (.slice elem)) (hi : P.info? elem = some i) (hx : ρ x = .slice (some ⟨b, off, none⟩) len cap) (l : Nat) (hlo : ρ lo = .int k l) (hl : l ≤ len) (so : Nat) (hso : so = if cap = l then off else off + l * i.size) :
    (execOp ρ ⟨dst, .slice t x (some lo) none none, ty, pos, aft, gd⟩).run P w = .ok (.value (.slice (some ⟨b, so, none⟩) (len - l) (cap - l))) w := by
  have h2 : (0 : Int) ≤ (l : Int) ∧ (l : Int) ≤ (len : Int) := by omega
  subst hso
  by_cases h1 : cap = l
  · simp [execOp, Instr.sliceAt, run_underlying ht, Instr.slice, hx, hlo, Instr.sliceBounds, Instr.sliceBound, asIntOf, h2, hl, sizeOf, typeInfo, hi, h1]
  · simp [execOp, Instr.sliceAt, run_underlying ht, Instr.slice, hx, hlo, Instr.sliceBounds, Instr.sliceBound, asIntOf, h2, hl, sizeOf, typeInfo, hi, h1, addr_add]

theorem aw_slice_any {P : Program} {ops : Array Oper} {Q : Exit → Act → World → Prop} {a : Act} {w : World} {rest : List Oper} {dst : Option Tmp} {t ty elem : TypeId} {x lo : Operand} {pos : String} {aft : Array Edge} {i : TypeInfo} {b off len cap : Nat} {k : IntKind}
    (ht : P.underlying t = some (.slice elem)) (hi : P.info? elem = some i) (sz : Nat) (hsz : i.size = sz) (hx : a.eval x = .slice (some ⟨b, off, none⟩) len cap) (l : Nat) (hlo : a.eval lo = .int k l) (hl : l ≤ len) (so : Nat) (hso : so = if cap = l then off else off + l * sz)
    (h : wpList P ops Q rest (a.put dst (.slice (some ⟨b, so, none⟩) (len - l) (cap - l))) w) : wpList P ops Q (⟨dst, .slice t x (some lo) none none, ty, pos, aft, none⟩ :: rest) a w := by
  subst hsz
  exact wpList_run rfl (run_slice_any ht hi hx l hlo hl so hso) h

theorem st_slice_lo {P : Program} {ops : Array Oper} {Q : Act → Prop} {a : Act} {w : World} {rest : List Oper} {dst : Option Tmp} {t ty elem : TypeId} {x lo : Operand} {pos : String} {aft : Array Edge} {i : TypeInfo} {b off len cap : Nat} {k : IntKind}
    (ht : P.underlying t = some (.slice elem)) (hi : P.info? elem = some i) (sz : Nat) (hsz : i.size = sz) (hx : a.eval x = .slice (some ⟨b, off, none⟩) len cap) (l : Nat) (hlo : a.eval lo = .int k l) (hl : l ≤ len) (hc : l < cap)
    (h : wpStill P ops w Q rest (a.put dst (.slice (some ⟨b, off + l * sz, none⟩) (len - l) (cap - l)))) : wpStill P ops w Q (⟨dst, .slice t x (some lo) none none, ty, pos, aft, none⟩ :: rest) a := by
  subst hsz
  exact wpStill_run rfl (run_slice_lo ht hi hx l hlo hl hc) h

theorem st_load {P : Program} {ops : Array Oper} {Q : Act → Prop} {a : Act} {w : World} {rest : List Oper} {dst : Option Tmp} {ty : TypeId} {pos : String} {aft : Array Edge} {t : TypeId} {x : Operand} {b off n : Nat} {L M : List Value} {e : TypeId}
    (ht : aggSize P t n) (hx : a.eval x = .pointer (some ⟨b, off, none⟩)) (hb : Blk w b L e) (hl : off + n ≤ L.length) (hM : (L.drop off).take n = M)
    (h : wpStill P ops w Q rest (a.put dst (.agg M.toArray))) : wpStill P ops w Q (⟨dst, .load t x, ty, pos, aft, none⟩ :: rest) a := by
  subst hM
  exact wpStill_run rfl (run_load_agg ht hx hb hl) h

end Go.Proofs.Ytbbhchmdggfncaa
