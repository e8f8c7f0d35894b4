/-
  Frames, their sectors, and bodies that are spread over them: plain functions over lists of numbers. No condition beyond each law's own premises.
-/
import Derived.Test.YtclfklcboigifaaMath
import Derived.Test.YtclfklcboigifaaPMath
namespace Go.Proofs.Ytclfklcboigifaa
set_option linter.unusedSimpArgs false
set_option linter.unusedVariables false
set_option maxRecDepth 100000

structure Fr where
  lsn : Int
  ep : Int
  ix : Int
  ct : Int
  B : List Nat
def fr0 : Fr := ⟨0, 0, 0, 0, []⟩
def rightN (f : Fr) : Bool := decide (0 ≤ f.lsn ∧ f.lsn ≤ 4611686018427387903 ∧ 0 ≤ f.ep ∧ f.ep ≤ 4294967295 ∧ f.B.length ≤ 40 ∧ 0 ≤ f.ix ∧ f.ix < f.ct ∧ f.ct ≤ 65535)
theorem rightN_iff (f : Fr) : rightN f = true ↔ (0 ≤ f.lsn ∧ f.lsn ≤ 4611686018427387903 ∧ 0 ≤ f.ep ∧ f.ep ≤ 4294967295 ∧ f.B.length ≤ 40 ∧ 0 ≤ f.ix ∧ f.ix < f.ct ∧ f.ct ≤ 65535) := by simp [rightN]
def headN (f : Fr) : List Nat := numB 46878 2 ++ (numB f.lsn.toNat 8 ++ (numB f.ep.toNat 4 ++ (numB f.ix.toNat 2 ++ (numB f.ct.toNat 2 ++ textB f.B))))
theorem headN_length (f : Fr) : (headN f).length = f.B.length + 20 := by
  simp [headN, numB_length, textB_length]; omega
theorem headN_lt (f : Fr) (hB : ∀ x ∈ f.B, x < 256) : ∀ x ∈ headN f, x < 256 := by
  intro x hx
  simp only [headN, List.mem_append] at hx
  rcases hx with h | h | h | h | h | h
  · exact numB_lt _ _ x h
  · exact numB_lt _ _ x h
  · exact numB_lt _ _ x h
  · exact numB_lt _ _ x h
  · exact numB_lt _ _ x h
  · exact textB_lt _ hB x h
def putN (f : Fr) : List Nat := markN (padN (headN f) 64)
theorem pad64 (f : Fr) (h : f.B.length ≤ 40) : padN (headN f) 64 = headN f ++ List.replicate (64 - (headN f).length) 0 := by
  have hl := headN_length f
  have hm : missN (headN f).length 64 = 64 - (headN f).length := by
    unfold missN
    rw [if_neg (by decide), show (64 : Int).toNat = 64 from rfl, Nat.mod_eq_of_lt (by omega), if_neg (by omega)]
  unfold padN
  rw [hm]
theorem pad64_length (f : Fr) (h : f.B.length ≤ 40) : (padN (headN f) 64).length = 64 := by
  have hl := headN_length f
  rw [pad64 f h]; simp; omega
theorem pad64_lt (f : Fr) (h : f.B.length ≤ 40) (hB : ∀ x ∈ f.B, x < 256) : ∀ x ∈ padN (headN f) 64, x < 256 := by
  intro x hx
  rw [pad64 f h] at hx
  rcases List.mem_append.1 hx with h | h
  · exact headN_lt f hB x h
  · rw [List.eq_of_mem_replicate h]; decide
theorem putN_length (f : Fr) (h : f.B.length ≤ 40) : (putN f).length = 64 := by rw [putN, markN_length, pad64_length f h]
theorem putN_lt (f : Fr) (h : f.B.length ≤ 40) (hB : ∀ x ∈ f.B, x < 256) : ∀ x ∈ putN f, x < 256 := markN_lt _ (pad64_lt f h hB)
theorem putN_eq (f : Fr) (h : f.B.length ≤ 40) : putN f = (headN f ++ List.replicate (60 - (headN f).length) 0) ++ fourN (joinN 0 (headN f ++ List.replicate (60 - (headN f).length) 0)) := by
  have hl := headN_length f
  have e : (padN (headN f) 64).take 60 = headN f ++ List.replicate (60 - (headN f).length) 0 := by
    rw [pad64 f h, List.take_append, List.take_of_length_le (by omega), List.take_replicate]
    congr 2
    omega
  unfold putN markN
  rw [pad64_length f h, if_neg (by decide), show 64 - 4 = 60 from rfl, e]
theorem putN_take (f : Fr) (h : f.B.length ≤ 40) : (putN f).take 60 = headN f ++ List.replicate (60 - (headN f).length) 0 := by
  have hl := headN_length f
  rw [putN_eq f h, List.take_left' (by simp; omega)]

def readN (b : List Nat) : Fr × Bool :=
  let s0 := scanNum b 0 2
  let s1 := scanNum s0.2.1 s0.2.2 8
  let s2 := scanNum s1.2.1 s1.2.2 4
  let s3 := scanNum s2.2.1 s2.2.2 2
  let s4 := scanNum s3.2.1 s3.2.2 2
  let s5 := scanText s4.2.1 s4.2.2 40
  let f : Fr := ⟨s1.1, s2.1, s3.1, s4.1, s5.1⟩
  (f, noughtsN s5.2.1 s5.2.2 && rightN f)
def getN (b : List Nat) : Fr × Int :=
  if b.length ≠ 64 ∨ (scanNum b 0 2).1 ≠ 46878 then (fr0, 20)
  else if goodN b = false then (fr0, 21)
  else if (readN (b.take 60)).2 = true then ((readN (b.take 60)).1, 0) else (fr0, 20)

theorem sn2 (n : Nat) (R : List Nat) (hn : n < 65536) : scanNum (numB n 2 ++ R) 0 2 = ((n : Int), R, 0) := scanNum_num n 2 R (by decide) (by decide) (by simpa using hn) (by omega)
theorem sn4 (n : Nat) (R : List Nat) (hn : n < 4294967296) : scanNum (numB n 4 ++ R) 0 4 = ((n : Int), R, 0) := scanNum_num n 4 R (by decide) (by decide) (by simpa using hn) (by omega)
theorem sn8 (n : Nat) (R : List Nat) (hn : n < 9223372036854775808) : scanNum (numB n 8 ++ R) 0 8 = ((n : Int), R, 0) := scanNum_num n 8 R (by decide) (by decide) (by simp; omega) (by omega)
theorem noughts_rep (k : Nat) : noughtsN (List.replicate k 0) 0 = true := by simp [noughtsN]

theorem readN_head (f : Fr) (hr : rightN f = true) (k : Nat) : readN (headN f ++ List.replicate k 0) = (f, true) := by
  obtain ⟨h1, h2, h3, h4, h5, h6, h7, h8⟩ := (rightN_iff f).1 hr
  have e : headN f ++ List.replicate k 0 = numB 46878 2 ++ (numB f.lsn.toNat 8 ++ (numB f.ep.toNat 4 ++ (numB f.ix.toNat 2 ++ (numB f.ct.toNat 2 ++ (textB f.B ++ List.replicate k 0))))) := by simp [headN]
  unfold readN
  rw [e, sn2 46878 _ (by decide)]
  simp only []
  rw [sn8 f.lsn.toNat _ (by omega)]
  simp only []
  rw [sn4 f.ep.toNat _ (by omega)]
  simp only []
  rw [sn2 f.ix.toNat _ (by omega)]
  simp only []
  rw [sn2 f.ct.toNat _ (by omega)]
  simp only []
  rw [scanText_text f.B _ 40 (by omega) (by omega)]
  simp only [noughts_rep, Bool.true_and]
  have ef : (⟨(f.lsn.toNat : Int), (f.ep.toNat : Int), (f.ix.toNat : Int), (f.ct.toNat : Int), f.B⟩ : Fr) = f := by
    cases f
    simp at h1 h3 h6 h7 ⊢
    omega
  rw [ef, hr]
theorem getN_put (f : Fr) (hr : rightN f = true) (hB : ∀ x ∈ f.B, x < 256) : getN (putN f) = (f, 0) := by
  obtain ⟨h1, h2, h3, h4, h5, h6, h7, h8⟩ := (rightN_iff f).1 hr
  have hl := headN_length f
  have hs : (scanNum (putN f) 0 2).1 = 46878 := by
    rw [putN_eq f h5]
    have e : (headN f ++ List.replicate (60 - (headN f).length) 0) ++ fourN (joinN 0 (headN f ++ List.replicate (60 - (headN f).length) 0)) = numB 46878 2 ++ (numB f.lsn.toNat 8 ++ (numB f.ep.toNat 4 ++ (numB f.ix.toNat 2 ++ (numB f.ct.toNat 2 ++ (textB f.B ++ (List.replicate (60 - (headN f).length) 0 ++ fourN (joinN 0 (headN f ++ List.replicate (60 - (headN f).length) 0)))))))) := by simp [headN]
    rw [e, sn2 46878 _ (by decide)]
    rfl
  have hg : goodN (putN f) = true := goodN_mark _ (by rw [pad64_length f h5]; decide)
  have hrd : readN ((putN f).take 60) = (f, true) := by rw [putN_take f h5, readN_head f hr]
  unfold getN
  rw [if_neg (by rw [putN_length f h5, hs]; simp), if_neg (by rw [hg]; simp), hrd]
  rfl

/-- Bytes are the bytes of the number that they are. -/
theorem numB_valN : ∀ (xs : List Nat), (∀ x ∈ xs, x < 256) → numB (valN xs) xs.length = xs := by
  intro xs
  have h : ∀ l : List Nat, (∀ x ∈ l.reverse, x < 256) → numB (valN l.reverse) l.length = l.reverse := by
    intro l
    induction l with
    | nil => intro _; rfl
    | cons x l ih =>
      intro hx
      have h1 := ih (fun y hy => hx y (by rw [List.reverse_cons]; exact List.mem_append_left _ hy))
      have h2 := hx x (by simp)
      rw [List.reverse_cons, valN_snoc, List.length_cons, numB, show (valN l.reverse * 256 + x) / 256 = valN l.reverse by omega, show (valN l.reverse * 256 + x) % 256 = x by omega, h1]
  intro hB
  have := h xs.reverse (by simpa using hB)
  simpa using this
theorem firstN_inv {B : List Nat} {w n : Nat} (hB : ∀ x ∈ B, x < 256) (h : firstN B w = some n) : n < 256 ^ w ∧ n < 9223372036854775808 ∧ B = numB n w ++ B.drop w := by
  unfold firstN at h
  split at h
  case isFalse => cases h
  case isTrue hc =>
    obtain ⟨c1, c2, c3, c4⟩ := hc
    simp only [Int.toNat_natCast, Option.some.injEq] at h c4
    have hl : (B.take w).length = w := by simp; omega
    have hb : ∀ x ∈ B.take w, x < 256 := fun x hx => hB x (List.mem_of_mem_take hx)
    have h1 := valN_lt (B.take w) hb
    have h2 := numB_valN (B.take w) hb
    rw [hl] at h1 h2
    rw [h] at h1 h2 c4
    refine ⟨h1, c4, ?_⟩
    rw [h2, List.take_append_drop]
theorem scanNum_inv {B : List Nat} {E : Int} {w : Nat} (hB : ∀ x ∈ B, x < 256) (h : (scanNum B E w).2.2 = 0) : E = 0 ∧ ∃ n : Nat, scanNum B E w = ((n : Int), B.drop w, 0) ∧ n < 256 ^ w ∧ n < 9223372036854775808 ∧ B = numB n w ++ B.drop w := by
  unfold scanNum at h ⊢
  by_cases hE : E = 0
  · refine ⟨hE, ?_⟩
    rw [if_neg (by simp [hE])] at h ⊢
    cases hf : firstN B (w : Int) with
    | none => rw [hf] at h; simp at h
    | some n =>
      have := firstN_inv hB hf
      exact ⟨n, by simp, this.1, this.2.1, this.2.2⟩
  · rw [if_pos hE] at h
    exact absurd h hE
theorem scanText_inv {B : List Nat} {E m : Int} (hB : ∀ x ∈ B, x < 256) (h : (scanText B E m).2.2 = 0) : E = 0 ∧ ∃ T R, scanText B E m = (T, R, 0) ∧ B = textB T ++ R ∧ (T.length : Int) ≤ m ∧ T.length < 65536 := by
  unfold scanText at h ⊢
  by_cases hE : E = 0
  · refine ⟨hE, ?_⟩
    rw [if_neg (by simp [hE])] at h ⊢
    cases hf : firstN B 2 with
    | none => rw [hf] at h; simp at h
    | some n =>
      have h2 := firstN_inv (w := 2) hB hf
      rw [hf] at h
      simp only [] at h ⊢
      split at h
      case isFalse => simp at h
      case isTrue hc =>
        rw [if_pos hc]
        have hl : ((B.drop 2).take n).length = n := by simp; omega
        refine ⟨_, _, rfl, ?_, by rw [hl]; exact hc.1, by rw [hl]; simpa using h2.1⟩
        unfold textB
        rw [hl]
        conv => lhs; rw [h2.2.2]
        rw [List.append_assoc, ← List.drop_drop, List.take_append_drop]
  · rw [if_pos hE] at h
    exact absurd h hE
theorem noughts_inv {R : List Nat} {E : Int} (h : noughtsN R E = true) : E = 0 ∧ R = List.replicate R.length 0 := by
  simp [noughtsN] at h
  exact ⟨h.1, List.eq_replicate_iff.2 ⟨rfl, h.2⟩⟩
theorem readN_inv {b : List Nat} (hB : ∀ x ∈ b, x < 256) (h : (readN b).2 = true) : rightN (readN b).1 = true ∧ ∃ n k : Nat, n < 65536 ∧ scanNum b 0 2 = ((n : Int), b.drop 2, 0) ∧ b = numB n 2 ++ ((headN (readN b).1).drop 2 ++ List.replicate k 0) := by
  unfold readN at h ⊢
  simp only [Bool.and_eq_true] at h ⊢
  refine ⟨h.2, ?_⟩
  obtain ⟨h, -⟩ := h
  obtain ⟨e5, hR⟩ := noughts_inv h
  have l0 := scanNum_lt (E := 0) (w := 2) hB
  have l1 := scanNum_lt (E := (scanNum b 0 2).2.2) (w := 8) l0
  have l2 := scanNum_lt (E := (scanNum (scanNum b 0 2).2.1 (scanNum b 0 2).2.2 8).2.2) (w := 4) l1
  generalize hs0 : scanNum b 0 2 = s0 at *
  generalize hs1 : scanNum s0.2.1 s0.2.2 8 = s1 at *
  generalize hs2 : scanNum s1.2.1 s1.2.2 4 = s2 at *
  have l3 := scanNum_lt (E := s2.2.2) (w := 2) l2
  generalize hs3 : scanNum s2.2.1 s2.2.2 2 = s3 at *
  have l4 := scanNum_lt (E := s3.2.2) (w := 2) l3
  generalize hs4 : scanNum s3.2.1 s3.2.2 2 = s4 at *
  generalize hs5 : scanText s4.2.1 s4.2.2 40 = s5 at *
  obtain ⟨e4, T, R, hT, hB5, -, -⟩ := scanText_inv l4 (by rw [hs5]; exact e5)
  obtain ⟨e3, n4, h4, -, -, hB4⟩ := scanNum_inv (w := 2) l3 (by rw [← e4, ← hs4]; rfl)
  obtain ⟨e2, n3, h3, -, -, hB3⟩ := scanNum_inv (w := 2) l2 (by rw [← e3, ← hs3]; rfl)
  obtain ⟨e1, n2, h2, -, -, hB2⟩ := scanNum_inv (w := 4) l1 (by rw [← e2, ← hs2]; rfl)
  obtain ⟨e0, n1, h1, -, -, hB1⟩ := scanNum_inv (w := 8) l0 (by rw [← e1, ← hs1]; rfl)
  obtain ⟨-, n0, h0, hn0, -, hB0⟩ := scanNum_inv (E := 0) (w := 2) hB (by have := e0; rw [← hs0] at this; exact this)
  have g0 : s0 = ((n0 : Int), b.drop 2, 0) := hs0.symm.trans h0
  have g1 : s1 = ((n1 : Int), s0.2.1.drop 8, 0) := hs1.symm.trans h1
  have g2 : s2 = ((n2 : Int), s1.2.1.drop 4, 0) := hs2.symm.trans h2
  have g3 : s3 = ((n3 : Int), s2.2.1.drop 2, 0) := hs3.symm.trans h3
  have g4 : s4 = ((n4 : Int), s3.2.1.drop 2, 0) := hs4.symm.trans h4
  have g5 : s5 = (T, R, 0) := hs5.symm.trans hT
  refine ⟨n0, R.length, by simpa using hn0, g0, ?_⟩
  have a0 : s0.2.1 = b.drop 2 := by rw [g0]
  have a1 : s1.2.1 = s0.2.1.drop 8 := by rw [g1]
  have a2 : s2.2.1 = s1.2.1.drop 4 := by rw [g2]
  have a3 : s3.2.1 = s2.2.1.drop 2 := by rw [g3]
  have a4 : s4.2.1 = s3.2.1.drop 2 := by rw [g4]
  have a5 : s5.2.1 = R := by rw [g5]
  have b1 : s1.1 = (n1 : Int) := by rw [g1]
  have b2 : s2.1 = (n2 : Int) := by rw [g2]
  have b3 : s3.1 = (n3 : Int) := by rw [g3]
  have b4 : s4.1 = (n4 : Int) := by rw [g4]
  have b5 : s5.1 = T := by rw [g5]
  have hd : (headN ⟨s1.1, s2.1, s3.1, s4.1, s5.1⟩).drop 2 = numB n1 8 ++ (numB n2 4 ++ (numB n3 2 ++ (numB n4 2 ++ textB T))) := by
    unfold headN
    rw [drop_num, b1, b2, b3, b4, b5]
    simp only [Int.toNat_natCast]
  rw [hd, ← a5, ← hR, a5]
  conv => lhs; rw [hB0, ← a0, hB1, ← a1, hB2, ← a2, hB3, ← a3, hB4, ← a4, hB5]
  simp only [List.append_assoc]
theorem getN_right {b : List Nat} (h : (getN b).2 = 0) : rightN (getN b).1 = true := by
  unfold getN at h ⊢
  split at h
  · simp at h
  · rename_i h1
    rw [if_neg h1]
    split at h
    · simp at h
    · rename_i h2
      rw [if_neg h2]
      split at h
      · rename_i h3
        rw [if_pos h3]
        unfold readN at h3 ⊢
        simp only [Bool.and_eq_true] at h3
        exact h3.2
      · simp at h
theorem getN_inv {b : List Nat} (hB : ∀ x ∈ b, x < 256) (h : (getN b).2 = 0) : b = putN (getN b).1 := by
  have hr := getN_right h
  unfold getN at h hr ⊢
  split at h
  · simp at h
  · rename_i h1
    rw [if_neg h1] at hr ⊢
    split at h
    · simp at h
    · rename_i h2
      rw [if_neg h2] at hr ⊢
      split at h
      · rename_i h3
        rw [if_pos h3] at hr ⊢
        simp only [not_or, Decidable.not_not, ne_eq] at h1
        obtain ⟨hl, h46⟩ := h1
        have hBt : ∀ x ∈ b.take 60, x < 256 := fun x hx => hB x (List.mem_of_mem_take hx)
        obtain ⟨-, n, k, hn, hs, hb⟩ := readN_inv hBt h3
        simp only [] at hr ⊢
        generalize (readN (b.take 60)).1 = f at *
        have hc := (rightN_iff f).1 hr
        have hln := headN_length f
        have hbb : b = numB n 2 ++ ((headN f).drop 2 ++ List.replicate k 0 ++ b.drop 60) := by
          conv => lhs; rw [← List.take_append_drop 60 b, hb]
          simp only [List.append_assoc]
        have hn46 : n = 46878 := by
          rw [hbb, sn2 n _ hn] at h46
          simp at h46
          omega
        have hhd : numB n 2 ++ (headN f).drop 2 = headN f := by
          rw [hn46]
          unfold headN
          rw [drop_num]
        have hb60 : b.take 60 = headN f ++ List.replicate k 0 := by rw [hb, ← List.append_assoc, hhd]
        have hk : k = 60 - (headN f).length := by
          have := congrArg List.length hb60
          simp at this
          omega
        have hg : goodN b = true := by simpa using h2
        unfold goodN at hg
        rw [hl] at hg
        simp at hg
        rw [putN_eq f hc.2.2.2.2.1, ← hk, ← hb60, ← hg, List.take_append_drop]
      · simp at h
theorem getN_err {b : List Nat} (h : (getN b).2 ≠ 0) : (getN b).1 = fr0 ∧ ((getN b).2 = 20 ∨ (getN b).2 = 21) := by
  unfold getN at h ⊢
  split
  · simp
  · split
    · simp
    · split
      · rename_i h1 h2 h3
        rw [if_neg h1, if_neg h2, if_pos h3] at h
        simp at h
      · simp
theorem getN_B {b : List Nat} (hB : ∀ x ∈ b, x < 256) : ∀ x ∈ (getN b).1.B, x < 256 := by
  have hR : ∀ c : List Nat, (∀ x ∈ c, x < 256) → ∀ x ∈ (readN c).1.B, x < 256 := by
    intro c hc
    unfold readN
    exact (scanText_lt (scanNum_lt (scanNum_lt (scanNum_lt (scanNum_lt (scanNum_lt hc)))))).1
  unfold getN
  split
  · simp [fr0]
  · split
    · simp [fr0]
    · split
      · exact hR _ (fun x hx => hB x (List.mem_of_mem_take hx))
      · simp [fr0]

/-- What sectors are gathered to. -/
structure GS where
  body : List Nat
  nx : Fr
abbrev GR := List Nat × Int × Int
def comesN (f n : Fr) : Bool := (decide (f.lsn = n.lsn ∧ f.ep = n.ep ∧ f.ix = n.ix ∧ f.ct = n.ct) && (decide (f.ix = f.ct - 1) || decide (f.B.length = 40))) && (decide (f.ix = 0) || decide (0 < f.B.length))
def nxN (n f : Fr) : Fr := if n.ix = 0 then ⟨n.lsn, f.ep, n.ix, f.ct, []⟩ else n
def gStep (s : GS) (b : List Nat) : GS ⊕ GR :=
  if (getN b).2 ≠ 0 then .inr ([], 0, (getN b).2)
  else if comesN (getN b).1 (nxN s.nx (getN b).1) = false then .inr ([], 0, 20)
  else if s.nx.ix + 1 = (nxN s.nx (getN b).1).ct then .inr (s.body ++ (getN b).1.B, (nxN s.nx (getN b).1).ct, 0)
  else .inl ⟨s.body ++ (getN b).1.B, ⟨s.nx.lsn + 1, (nxN s.nx (getN b).1).ep, s.nx.ix + 1, (nxN s.nx (getN b).1).ct, []⟩⟩
def gRun (s : GS) : List (List Nat) → GS ⊕ GR
  | [] => .inl s
  | b :: r => match gStep s b with
    | .inl s' => gRun s' r
    | .inr x => .inr x
theorem gRun_snoc (x : List Nat) : ∀ (pre : List (List Nat)) (s : GS), gRun s (pre ++ [x]) = match gRun s pre with
    | .inl s' => gStep s' x
    | .inr r => .inr r
  | [], s => by
    simp only [List.nil_append, gRun]
    split <;> simp_all
  | b :: pre, s => by
    simp only [List.cons_append, gRun]
    cases h : gStep s b with
    | inl s' => simp only []; exact gRun_snoc x pre s'
    | inr r => simp only []
theorem gRun_more {r : GR} : ∀ (pre post : List (List Nat)) (s : GS), gRun s pre = .inr r → gRun s (pre ++ post) = .inr r
  | [], post, s, h => by simp [gRun] at h
  | b :: pre, post, s, h => by
    simp only [List.cons_append, gRun] at h ⊢
    cases hs : gStep s b with
    | inl s' => rw [hs] at h; simp only [] at h ⊢; exact gRun_more pre post s' h
    | inr x => rw [hs] at h; simp only [] at h ⊢; exact h
def gEnd : GS ⊕ GR → GR
  | .inl _ => ([], 0, 20)
  | .inr r => r
/-- What stays within bounds. -/
def gOk (s : GS) : Prop := 0 ≤ s.nx.lsn ∧ s.nx.lsn ≤ 4611686018427387904 ∧ 0 ≤ s.nx.ix ∧ s.nx.ix ≤ 65535 ∧ 0 ≤ s.nx.ct ∧ s.nx.ct ≤ 65535 ∧ (s.body.length : Int) ≤ 40 * s.nx.ix ∧ s.nx.B = []
theorem comesN_eq {f n : Fr} (h : comesN f n = true) : f.lsn = n.lsn ∧ f.ep = n.ep ∧ f.ix = n.ix ∧ f.ct = n.ct := by
  simp [comesN] at h
  exact h.1.1
theorem gStep_ok {s s' : GS} {b : List Nat} (h : gOk s) (hs : gStep s b = .inl s') : gOk s' := by
  unfold gStep at hs
  split at hs
  · cases hs
  · rename_i h1
    have hr := (rightN_iff _).1 (getN_right (by simpa using h1 : (getN b).2 = 0))
    split at hs
    · cases hs
    · rename_i h2
      have hc := comesN_eq (by simpa using h2)
      split at hs
      · cases hs
      · cases hs
        obtain ⟨g1, g2, g3, g4, g5, g6, g7, g8⟩ := h
        have hl : (nxN s.nx (getN b).1).lsn = s.nx.lsn ∧ (nxN s.nx (getN b).1).ix = s.nx.ix := by unfold nxN; split <;> simp
        refine ⟨?_, ?_, ?_, ?_, ?_, ?_, ?_, rfl⟩ <;> simp only [List.length_append] <;> omega

/-- How many frames a body needs. -/
def sectN (n : Nat) : Nat := max 1 ((n + 39) / 40)
def frameAt (lsn ep : Int) (body : List Nat) (i : Nat) : Fr := ⟨lsn + i, ep, i, (sectN body.length : Nat), (body.drop (40 * i)).take 40⟩
def sectorsOf (lsn : Int) (ep : Nat → Int) (body : List Nat) : List (List Nat) := (List.range (sectN body.length)).map (fun i => putN (frameAt lsn (ep i) body i))
def LsnOk (lsn : Int) (n : Nat) : Prop := 0 ≤ lsn ∧ lsn + sectN n ≤ 4611686018427387904 ∧ n ≤ 2621400
theorem sectN_bounds {n : Nat} (h : n ≤ 2621400) : 1 ≤ sectN n ∧ sectN n ≤ 65535 ∧ n ≤ 40 * sectN n ∧ (2 ≤ sectN n → 40 * (sectN n - 1) < n) := by
  unfold sectN; omega
theorem frameAt_right {lsn ep : Int} {body : List Nat} {i : Nat} (h : LsnOk lsn body.length) (hep : 0 ≤ ep ∧ ep ≤ 4294967295) (hi : i < sectN body.length) : rightN (frameAt lsn ep body i) = true := by
  obtain ⟨h1, h2, h3⟩ := h
  have hb := sectN_bounds h3
  rw [rightN_iff]
  unfold frameAt
  simp only [List.length_take, List.length_drop]
  refine ⟨?_, ?_, hep.1, hep.2, ?_, ?_, ?_, ?_⟩ <;> omega
theorem frameAt_B {lsn ep : Int} {body : List Nat} {i : Nat} (hB : ∀ x ∈ body, x < 256) : ∀ x ∈ (frameAt lsn ep body i).B, x < 256 := fun x hx => hB x (List.mem_of_mem_drop (List.mem_of_mem_take hx))
/-- The state behind the frames ahead of j. -/
def gAt (lsn ep : Int) (body : List Nat) (j : Nat) : GS := ⟨body.take (40 * j), ⟨lsn + j, ep, j, (sectN body.length : Nat), []⟩⟩
theorem take_more (body : List Nat) (j : Nat) : body.take (40 * j) ++ (body.drop (40 * j)).take 40 = body.take (40 * (j + 1)) := by
  rw [show 40 * (j + 1) = 40 * j + 40 by omega, List.take_add]
theorem step_frame {lsn ep e2 : Int} {body : List Nat} {j : Nat} (h : LsnOk lsn body.length) (hep : 0 ≤ e2 ∧ e2 ≤ 4294967295) (hB : ∀ x ∈ body, x < 256) (hj : j < sectN body.length) (s : GS) (hs : s.body = body.take (40 * j) ∧ s.nx.lsn = lsn + j ∧ s.nx.ix = j ∧ (j ≠ 0 → s.nx.ep = ep ∧ s.nx.ct = (sectN body.length : Nat))) :
    gStep s (putN (frameAt lsn e2 body j)) = if j ≠ 0 ∧ e2 ≠ ep then .inr ([], 0, 20) else if j + 1 = sectN body.length then .inr (body, (sectN body.length : Nat), 0) else .inl (gAt lsn e2 body (j + 1)) := by
  have hr := frameAt_right h hep hj
  have hg := getN_put _ hr (frameAt_B hB)
  have hb := sectN_bounds h.2.2
  obtain ⟨s1, s2, s3, s4⟩ := hs
  unfold gStep
  rw [hg]
  simp only [ne_eq, not_true_eq_false, if_false]
  have hlen : (frameAt lsn e2 body j).B.length = min 40 (body.length - 40 * j) := by simp [frameAt]
  by_cases hbad : j ≠ 0 ∧ e2 ≠ ep
  · have hc : comesN (frameAt lsn e2 body j) (nxN s.nx (frameAt lsn e2 body j)) = false := by
      have hx : nxN s.nx (frameAt lsn e2 body j) = s.nx := by unfold nxN; rw [if_neg (by rw [s3]; have := hbad.1; omega)]
      rw [hx]
      cases hcc : comesN (frameAt lsn e2 body j) s.nx with
      | false => rfl
      | true =>
        have := (comesN_eq hcc).2.1
        rw [(s4 hbad.1).1] at this
        exact absurd this hbad.2
    rw [if_pos hc, if_pos hbad]
  · rw [if_neg hbad]
    have hn : (nxN s.nx (frameAt lsn e2 body j)).lsn = lsn + j ∧ (nxN s.nx (frameAt lsn e2 body j)).ep = e2 ∧ (nxN s.nx (frameAt lsn e2 body j)).ix = j ∧ (nxN s.nx (frameAt lsn e2 body j)).ct = (sectN body.length : Nat) := by
      unfold nxN
      split
      · rename_i h0
        exact ⟨s2, rfl, s3, rfl⟩
      · rename_i h0
        have hj0 : j ≠ 0 := by rw [s3] at h0; omega
        have he : e2 = ep := by
          by_cases he : e2 = ep
          · exact he
          · exact absurd ⟨hj0, he⟩ hbad
        exact ⟨s2, by rw [(s4 hj0).1, he], s3, (s4 hj0).2⟩
    have hc : comesN (frameAt lsn e2 body j) (nxN s.nx (frameAt lsn e2 body j)) = true := by
      unfold comesN
      rw [hn.1, hn.2.1, hn.2.2.1, hn.2.2.2, hlen]
      have e1 : (frameAt lsn e2 body j).lsn = lsn + j := rfl
      have e2' : (frameAt lsn e2 body j).ep = e2 := rfl
      have e3 : (frameAt lsn e2 body j).ix = j := rfl
      have e4 : (frameAt lsn e2 body j).ct = (sectN body.length : Nat) := rfl
      rw [e1, e2', e3, e4]
      generalize sectN body.length = c at *
      generalize body.length = n at *
      have hq : ((j : Int) = (c : Int) - 1 ∨ min 40 (n - 40 * j) = 40) ∧ ((j : Int) = 0 ∨ 0 < min 40 (n - 40 * j)) := by omega
      simp only [and_self, decide_true, Bool.true_and, Bool.and_eq_true, Bool.or_eq_true, decide_eq_true_eq]
      exact hq
    rw [if_neg (by rw [hc]; simp), hn.2.2.2, s1, s3]
    by_cases hlast : j + 1 = sectN body.length
    · rw [if_pos (by omega), if_pos hlast]
      have e1 : body.take (40 * j) ++ (frameAt lsn e2 body j).B = body.take (40 * (j + 1)) := take_more body j
      rw [e1, hlast, List.take_of_length_le hb.2.2.1]
    · rw [if_neg (by omega), if_neg hlast]
      unfold gAt
      rw [hn.2.1, s2]
      have e1 : body.take (40 * j) ++ (frameAt lsn e2 body j).B = body.take (40 * (j + 1)) := take_more body j
      rw [e1]
      simp only [Int.natCast_add, Int.natCast_one, Sum.inl.injEq, GS.mk.injEq, Fr.mk.injEq, true_and, and_true]
      omega
def framesFrom (lsn : Int) (ep : Nat → Int) (body : List Nat) (j : Nat) : List (List Nat) := (List.range' j (sectN body.length - j)).map (fun i => putN (frameAt lsn (ep i) body i))
theorem framesFrom_cons {lsn : Int} {ep : Nat → Int} {body : List Nat} {j : Nat} (hj : j < sectN body.length) : framesFrom lsn ep body j = putN (frameAt lsn (ep j) body j) :: framesFrom lsn ep body (j + 1) := by
  unfold framesFrom
  rw [show sectN body.length - j = (sectN body.length - (j + 1)) + 1 by omega, List.range'_succ, List.map_cons]
theorem run_from {lsn : Int} {ep : Nat → Int} {body : List Nat} (h : LsnOk lsn body.length) (hep : ∀ i, 0 ≤ ep i ∧ ep i ≤ 4294967295) (hB : ∀ x ∈ body, x < 256) (e0 : Int) : ∀ (k j : Nat), j + k = sectN body.length → 1 ≤ j → 1 ≤ k →
    (gRun (gAt lsn e0 body j) (framesFrom lsn ep body j) = .inr (body, (sectN body.length : Nat), 0) ∧ ∀ i, j ≤ i → i < sectN body.length → ep i = e0) ∨ (gRun (gAt lsn e0 body j) (framesFrom lsn ep body j) = .inr ([], 0, 20) ∧ ∃ i, j ≤ i ∧ i < sectN body.length ∧ ep i ≠ e0)
  | k + 1, j, hjk, h1, _ => by
    have hj : j < sectN body.length := by omega
    rw [framesFrom_cons hj]
    simp only [gRun]
    rw [step_frame (ep := e0) h (hep j) hB hj (gAt lsn e0 body j) ⟨rfl, rfl, rfl, fun _ => ⟨rfl, rfl⟩⟩]
    by_cases he : ep j = e0
    · rw [if_neg (by simp [he])]
      by_cases hlast : j + 1 = sectN body.length
      · rw [if_pos hlast]
        simp only []
        exact .inl ⟨trivial, fun i hi hi2 => by rw [show i = j by omega]; exact he⟩
      · rw [if_neg hlast, he]
        simp only []
        rcases run_from h hep hB e0 k (j + 1) (by omega) (by omega) (by omega) with ⟨a, b⟩ | ⟨a, i, b⟩
        · refine .inl ⟨a, fun i hi hi2 => ?_⟩
          by_cases hij : i = j
          · rw [hij]; exact he
          · exact b i (by omega) hi2
        · exact .inr ⟨a, i, by omega, b.2⟩
    · rw [if_pos ⟨by omega, he⟩]
      simp only []
      exact .inr ⟨trivial, j, Nat.le_refl _, hj, he⟩
theorem gather_spread {lsn : Int} {ep : Nat → Int} {body : List Nat} (h : LsnOk lsn body.length) (hep : ∀ i, 0 ≤ ep i ∧ ep i ≤ 4294967295) (hB : ∀ x ∈ body, x < 256) :
    (gRun ⟨[], ⟨lsn, 0, 0, 0, []⟩⟩ (sectorsOf lsn ep body) = .inr (body, (sectN body.length : Nat), 0) ∧ ∀ i, i < sectN body.length → ep i = ep 0) ∨ (gRun ⟨[], ⟨lsn, 0, 0, 0, []⟩⟩ (sectorsOf lsn ep body) = .inr ([], 0, 20) ∧ ∃ i, i < sectN body.length ∧ ep i ≠ ep 0) := by
  have hb := sectN_bounds h.2.2
  have e : sectorsOf lsn ep body = framesFrom lsn ep body 0 := by
    unfold sectorsOf framesFrom
    rw [List.range_eq_range', Nat.sub_zero]
  rw [e, framesFrom_cons (by omega)]
  simp only [gRun]
  rw [step_frame (ep := 0) h (hep 0) hB (by omega) _ ⟨by simp, by simp, rfl, fun h => absurd rfl h⟩, if_neg (by simp)]
  by_cases hlast : 0 + 1 = sectN body.length
  · rw [if_pos hlast]
    simp only []
    exact .inl ⟨trivial, fun i hi => by rw [show i = 0 by omega]⟩
  · rw [if_neg hlast]
    simp only []
    rcases run_from h hep hB (ep 0) (sectN body.length - 1) 1 (by omega) (by omega) (by omega) with ⟨a, b⟩ | ⟨a, i, b⟩
    · refine .inl ⟨a, fun i hi => ?_⟩
      by_cases hi0 : i = 0
      · rw [hi0]
      · exact b i (by omega) hi
    · exact .inr ⟨a, i, b.2⟩

/-- Bytes in sectors, as many as there are. -/
def chunkN (B : List Nat) : List (List Nat) := (List.range ((B.length + 63) / 64)).map (fun i => (B.drop (64 * i)).take 64)
theorem chunkN_length (B : List Nat) : (chunkN B).length = (B.length + 63) / 64 := by simp [chunkN]
theorem flat_len : ∀ (L : List (List Nat)), (∀ x ∈ L, x.length = 64) → L.flatten.length = 64 * L.length
  | [], _ => rfl
  | x :: L, h => by
    rw [List.flatten_cons, List.length_append, h x (by simp), flat_len L (fun y hy => h y (by simp [hy])), List.length_cons]; omega
theorem flat_at : ∀ (L : List (List Nat)) (i : Nat) (hi : i < L.length), (∀ x ∈ L, x.length = 64) → (L.flatten.drop (64 * i)).take 64 = L[i]
  | x :: L, 0, _, h => by
    simp only [Nat.mul_zero, List.drop_zero, List.flatten_cons, List.getElem_cons_zero]
    rw [List.take_left' (h x (by simp))]
  | x :: L, i + 1, hi, h => by
    have hx := h x (by simp)
    rw [List.flatten_cons, show 64 * (i + 1) = x.length + 64 * i by omega, ← List.drop_drop, List.drop_left', List.getElem_cons_succ]
    · exact flat_at L i (by simpa using hi) (fun y hy => h y (by simp [hy]))
    · rfl
theorem chunk_flat (L : List (List Nat)) (h : ∀ x ∈ L, x.length = 64) : chunkN L.flatten = L := by
  have hl := flat_len L h
  apply List.ext_getElem
  · rw [chunkN_length, hl]; omega
  · intro i h1 h2
    simp only [chunkN, List.getElem_map, List.getElem_range]
    exact flat_at L i h2 h
theorem sectorsOf_length (lsn : Int) (ep : Nat → Int) (body : List Nat) : (sectorsOf lsn ep body).length = sectN body.length := by simp [sectorsOf]
theorem sectorsOf_64 {lsn : Int} {ep : Nat → Int} {body : List Nat} : ∀ x ∈ sectorsOf lsn ep body, x.length = 64 := by
  intro x hx
  simp only [sectorsOf, List.mem_map] at hx
  obtain ⟨i, _, rfl⟩ := hx
  exact putN_length _ (by simp [frameAt]; omega)
end Go.Proofs.Ytclfklcboigifaa
