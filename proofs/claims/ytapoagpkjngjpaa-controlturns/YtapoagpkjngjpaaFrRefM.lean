/-
  The reference's Get is Get: plain functions over lists of numbers.
-/
import Derived.Test.YtapoagpkjngjpaaFMath
namespace Go.Proofs.Ytapoagpkjngjpaa
set_option linter.unusedSimpArgs false
set_option linter.unusedVariables false
set_option maxRecDepth 100000

def refScanN (b : List Nat) : Fr × Int :=
  let s1 := scanNum (b.drop 2) 0 8
  let s2 := scanNum s1.2.1 s1.2.2 4
  let s3 := scanNum s2.2.1 s2.2.2 2
  let s4 := scanNum s3.2.1 s3.2.2 2
  let s5 := scanText s4.2.1 s4.2.2 40
  (⟨s1.1, s2.1, s3.1, s4.1, s5.1⟩, s5.2.2)
def refGetN (b : List Nat) : Fr × Int :=
  if b.length ≠ 64 ∨ b.getD 0 0 ≠ 183 ∨ b.getD 1 0 ≠ 30 then (fr0, 20)
  else if markN b ≠ b then (fr0, 21)
  else if (refScanN b).2 ≠ 0 ∨ rightN (refScanN b).1 = false ∨ putN (refScanN b).1 ≠ b then (fr0, 20)
  else ((refScanN b).1, 0)
theorem refScan_put (f : Fr) (hr : rightN f = true) : refScanN (putN f) = (f, 0) := by
  obtain ⟨h1, h2, h3, h4, h5, h6, h7, h8⟩ := (rightN_iff f).1 hr
  have e : (putN f).drop 2 = numB f.lsn.toNat 8 ++ (numB f.ep.toNat 4 ++ (numB f.ix.toNat 2 ++ (numB f.ct.toNat 2 ++ (textB f.B ++ (List.replicate (60 - (headN f).length) 0 ++ fourN (joinN 0 (headN f ++ List.replicate (60 - (headN f).length) 0))))))) := by
    rw [putN_eq f h5]
    generalize fourN (joinN 0 (headN f ++ List.replicate (60 - (headN f).length) 0)) = q
    generalize List.replicate (60 - (headN f).length) 0 = z
    unfold headN
    simp only [List.append_assoc]
    rw [drop_num]
  unfold refScanN
  rw [e]
  simp only []
  rw [sn8 f.lsn.toNat _ (by omega)]
  simp only []
  rw [sn4 f.ep.toNat _ (by omega)]
  simp only []
  rw [sn2 f.ix.toNat _ (by omega)]
  simp only []
  rw [sn2 f.ct.toNat _ (by omega)]
  simp only []
  rw [scanText_text f.B _ 40 (by omega) (by omega)]
  have ef : (⟨(f.lsn.toNat : Int), (f.ep.toNat : Int), (f.ix.toNat : Int), (f.ct.toNat : Int), f.B⟩ : Fr) = f := by
    cases f
    simp at h1 h3 h6 h7 ⊢
    omega
  simp only [ef]
theorem begins {b : List Nat} (hB : ∀ x ∈ b, x < 256) (hl : b.length = 64) : (scanNum b 0 2).1 = 46878 ↔ b.getD 0 0 = 183 ∧ b.getD 1 0 = 30 := by
  match b, hl with
  | x :: y :: r, hl =>
    have hx := hB x (by simp)
    have hy := hB y (by simp)
    have hf : firstN (x :: y :: r) 2 = some (x * 256 + y) := by
      unfold firstN
      have hv : valN (List.take (2 : Int).toNat (x :: y :: r)) = x * 256 + y := by simp [valN]
      rw [hv, if_pos ⟨by decide, by decide, by simp at hl ⊢; omega, by omega⟩]
    unfold scanNum
    rw [if_neg (by simp), hf]
    simp only [List.getD_cons_zero, List.getD_cons_succ]
    omega
theorem refScan_B {b : List Nat} (hB : ∀ x ∈ b, x < 256) : ∀ x ∈ (refScanN b).1.B, x < 256 := by
  unfold refScanN
  exact (scanText_lt (scanNum_lt (scanNum_lt (scanNum_lt (scanNum_lt (fun x hx => hB x (List.mem_of_mem_drop hx))))))).1
theorem get_eq_ref {b : List Nat} (hB : ∀ x ∈ b, x < 256) : getN b = refGetN b := by
  by_cases hl : b.length = 64
  case neg =>
    unfold getN refGetN
    rw [if_pos (.inl hl), if_pos (.inl hl)]
  case pos =>
  have hp := begins hB hl
  by_cases h2 : (scanNum b 0 2).1 = 46878
  case neg =>
    have h3 : b.getD 0 0 ≠ 183 ∨ b.getD 1 0 ≠ 30 := by
      rcases Nat.decEq (b.getD 0 0) 183 with h | h
      · exact .inl h
      · rcases Nat.decEq (b.getD 1 0) 30 with h' | h'
        · exact .inr h'
        · exact absurd (hp.2 ⟨h, h'⟩) h2
    unfold getN refGetN
    rw [if_pos (.inr h2), if_pos (.inr h3)]
  case pos =>
  have hp2 := hp.1 h2
  have hg := goodN_iff b hB
  by_cases hm : markN b = b
  case neg =>
    have hg2 : goodN b = false := by rw [hg]; simp [hm]
    unfold getN refGetN
    rw [if_neg (by simp [hl, h2]), if_pos hg2, if_neg (by simp only [not_or, Decidable.not_not]; exact ⟨hl, hp2⟩), if_pos hm]
  case pos =>
  have hg2 : goodN b = true := by rw [hg]; simp [hm, hl]
  have href : refGetN b = if (refScanN b).2 ≠ 0 ∨ rightN (refScanN b).1 = false ∨ putN (refScanN b).1 ≠ b then (fr0, 20) else ((refScanN b).1, 0) := by
    unfold refGetN
    rw [if_neg (by simp only [not_or, Decidable.not_not]; exact ⟨hl, hp2⟩), if_neg (by simp [hm])]
  rw [href]
  by_cases hc : (refScanN b).2 ≠ 0 ∨ rightN (refScanN b).1 = false ∨ putN (refScanN b).1 ≠ b
  · rw [if_pos hc]
    cases hr : (readN (b.take 60)).2 with
    | false =>
      unfold getN
      rw [if_neg (by simp [hl, h2]), if_neg (by simp [hg2]), if_neg (by simp [hr])]
    | true =>
      exfalso
      have h0 : (getN b).2 = 0 := by
        unfold getN
        rw [if_neg (by simp [hl, h2]), if_neg (by simp [hg2]), if_pos hr]
      have hrt := getN_right h0
      have hb := getN_inv hB h0
      have hs := refScan_put _ hrt
      rw [← hb] at hs
      rw [hs] at hc
      rcases hc with h | h | h
      · exact h rfl
      · rw [hrt] at h; cases h
      · exact h hb.symm
  · rw [if_neg hc]
    simp only [not_or, Decidable.not_not, Bool.not_eq_false] at hc
    have := getN_put _ hc.2.1 (refScan_B hB)
    rw [hc.2.2] at this
    exact this
end Go.Proofs.Ytapoagpkjngjpaa

/-
  Controls and their bytes: plain functions over lists of numbers. No condition beyond each law's own premises.
-/
namespace Go.Proofs.Ytapoagpkjngjpaa
set_option linter.unusedSimpArgs false
set_option linter.unusedVariables false
set_option maxRecDepth 100000

structure Ct where
  gen : Int
  ep : Int
  ar : Int
  tl : Int
  nm : Int
  re : Int
  lo : Int
def ct0 : Ct := ⟨0, 0, 0, 0, 0, 0, 0⟩
def rightC (c : Ct) : Bool := decide (1 ≤ c.gen ∧ c.gen ≤ 2305843009213693952) && (decide (0 ≤ c.ep ∧ c.ep ≤ 4294967295) && (decide (0 ≤ c.ar ∧ c.ar ≤ 1) && (decide (1 ≤ c.tl ∧ c.tl ≤ 2147483647) && (decide (0 ≤ c.nm ∧ c.nm ≤ 1099511627776) && (decide (0 ≤ c.re ∧ c.re ≤ 2305843009213693952) && decide (0 ≤ c.lo ∧ c.lo ≤ 2305843009213693952))))))
theorem rightC_iff (c : Ct) : rightC c = true ↔ (1 ≤ c.gen ∧ c.gen ≤ 2305843009213693952 ∧ 0 ≤ c.ep ∧ c.ep ≤ 4294967295 ∧ 0 ≤ c.ar ∧ c.ar ≤ 1 ∧ 1 ≤ c.tl ∧ c.tl ≤ 2147483647 ∧ 0 ≤ c.nm ∧ c.nm ≤ 1099511627776 ∧ 0 ≤ c.re ∧ c.re ≤ 2305843009213693952 ∧ 0 ≤ c.lo ∧ c.lo ≤ 2305843009213693952) := by
  simp only [rightC, Bool.and_eq_true, decide_eq_true_eq]
  constructor
  · rintro ⟨⟨a, b⟩, ⟨c, d⟩, ⟨e, f⟩, ⟨g, h⟩, ⟨i, j⟩, ⟨k, l⟩, m, n⟩
    exact ⟨a, b, c, d, e, f, g, h, i, j, k, l, m, n⟩
  · rintro ⟨a, b, c, d, e, f, g, h, i, j, k, l, m, n⟩
    exact ⟨⟨a, b⟩, ⟨c, d⟩, ⟨e, f⟩, ⟨g, h⟩, ⟨i, j⟩, ⟨k, l⟩, m, n⟩
def bodyC (c : Ct) : List Nat := numB c.ar.toNat 1 ++ (numB c.tl.toNat 4 ++ (numB c.nm.toNat 8 ++ (numB c.re.toNat 8 ++ (numB c.lo.toNat 8 ++ []))))
theorem bodyC_length (c : Ct) : (bodyC c).length = 29 := by simp [bodyC, numB_length]
theorem bodyC_lt (c : Ct) : ∀ x ∈ bodyC c, x < 256 := by
  intro x hx
  simp only [bodyC, List.mem_append, List.not_mem_nil, or_false] at hx
  rcases hx with h | h | h | h | h
  all_goals exact numB_lt _ _ _ h
def frC (c : Ct) : Fr := ⟨c.gen, c.ep, 0, 1, bodyC c⟩
theorem frC_right {c : Ct} (h : rightC c = true) : rightN (frC c) = true := by
  rw [rightC_iff] at h
  rw [rightN_iff]
  simp only [frC, bodyC_length]
  omega
def putC (c : Ct) : List Nat := putN (frC c)
theorem putC_length (c : Ct) : (putC c).length = 64 := putN_length _ (by simp only [frC, bodyC_length]; decide)
theorem putC_lt (c : Ct) : ∀ x ∈ putC c, x < 256 := putN_lt _ (by simp only [frC, bodyC_length]; decide) (bodyC_lt c)
/-- The control that the bytes of a frame of that place and epoch tell; what is left; the error. -/
def scanC (g e : Int) (b : List Nat) : Ct × List Nat × Int :=
  let s0 := scanNum b 0 1
  let s1 := scanNum s0.2.1 s0.2.2 4
  let s2 := scanNum s1.2.1 s1.2.2 8
  let s3 := scanNum s2.2.1 s2.2.2 8
  let s4 := scanNum s3.2.1 s3.2.2 8
  (⟨g, e, s0.1, s1.1, s2.1, s3.1, s4.1⟩, s4.2)
theorem ctsn1 (n : Nat) (R : List Nat) (hn : n < 256) : scanNum (numB n 1 ++ R) 0 1 = ((n : Int), R, 0) := scanNum_num n 1 R (by decide) (by decide) (by simpa using hn) (by omega)
theorem scanC_body {c : Ct} (h : rightC c = true) : scanC c.gen c.ep (bodyC c) = (c, [], 0) := by
  rw [rightC_iff] at h
  unfold scanC bodyC
  rw [ctsn1 _ _ (by omega)]; simp only []
  rw [sn4 _ _ (by omega)]; simp only []
  rw [sn8 _ _ (by omega)]; simp only []
  rw [sn8 _ _ (by omega)]; simp only []
  rw [sn8 _ _ (by omega)]; simp only []
  have e1 : ((c.ar.toNat : Nat) : Int) = c.ar := by omega
  have e2 : ((c.tl.toNat : Nat) : Int) = c.tl := by omega
  have e3 : ((c.nm.toNat : Nat) : Int) = c.nm := by omega
  have e4 : ((c.re.toNat : Nat) : Int) = c.re := by omega
  have e5 : ((c.lo.toNat : Nat) : Int) = c.lo := by omega
  rw [e1, e2, e3, e4, e5]
theorem scanC_inv {g e : Int} {b : List Nat} {c : Ct} (hB : ∀ x ∈ b, x < 256) (h : scanC g e b = (c, [], 0)) : b = bodyC c ∧ c.gen = g ∧ c.ep = e := by
  obtain ⟨m0, B0, E0, q0⟩ : ∃ n B E, scanNum b 0 1 = (n, B, E) := ⟨_, _, _, rfl⟩
  obtain ⟨m1, B1, E1, q1⟩ : ∃ n B E, scanNum B0 E0 4 = (n, B, E) := ⟨_, _, _, rfl⟩
  obtain ⟨m2, B2, E2, q2⟩ : ∃ n B E, scanNum B1 E1 8 = (n, B, E) := ⟨_, _, _, rfl⟩
  obtain ⟨m3, B3, E3, q3⟩ : ∃ n B E, scanNum B2 E2 8 = (n, B, E) := ⟨_, _, _, rfl⟩
  obtain ⟨m4, B4, E4, q4⟩ : ∃ n B E, scanNum B3 E3 8 = (n, B, E) := ⟨_, _, _, rfl⟩
  have l0 : ∀ x ∈ B0, x < 256 := by have := scanNum_lt (E := 0) (w := 1) hB; rw [q0] at this; exact this
  have l1 : ∀ x ∈ B1, x < 256 := by have := scanNum_lt (E := E0) (w := 4) l0; rw [q1] at this; exact this
  have l2 : ∀ x ∈ B2, x < 256 := by have := scanNum_lt (E := E1) (w := 8) l1; rw [q2] at this; exact this
  have l3 : ∀ x ∈ B3, x < 256 := by have := scanNum_lt (E := E2) (w := 8) l2; rw [q3] at this; exact this
  unfold scanC at h
  rw [q0] at h; simp only [] at h
  rw [q1] at h; simp only [] at h
  rw [q2] at h; simp only [] at h
  rw [q3] at h; simp only [] at h
  rw [q4] at h
  simp only [Prod.mk.injEq] at h
  obtain ⟨rfl, rfl, rfl⟩ := h
  obtain ⟨rfl, n4, p4, -, -, b4⟩ := scanNum_inv (E := E3) (w := 8) l3 (by show (scanNum B3 E3 8).2.2 = 0; rw [q4])
  replace q4 := p4.symm.trans q4
  obtain ⟨rfl, n3, p3, -, -, b3⟩ := scanNum_inv (E := E2) (w := 8) l2 (by show (scanNum B2 E2 8).2.2 = 0; rw [q3])
  replace q3 := p3.symm.trans q3
  obtain ⟨rfl, n2, p2, -, -, b2⟩ := scanNum_inv (E := E1) (w := 8) l1 (by show (scanNum B1 E1 8).2.2 = 0; rw [q2])
  replace q2 := p2.symm.trans q2
  obtain ⟨rfl, n1, p1, -, -, b1⟩ := scanNum_inv (E := E0) (w := 4) l0 (by show (scanNum B0 E0 4).2.2 = 0; rw [q1])
  replace q1 := p1.symm.trans q1
  obtain ⟨-, n0, p0, -, -, b0⟩ := scanNum_inv (E := 0) (w := 1) hB (by show (scanNum b 0 1).2.2 = 0; rw [q0])
  replace q0 := p0.symm.trans q0
  simp only [Prod.mk.injEq, and_true] at q0 q1 q2 q3 q4
  obtain ⟨rfl, r0⟩ := q0
  obtain ⟨rfl, r1⟩ := q1
  obtain ⟨rfl, r2⟩ := q2
  obtain ⟨rfl, r3⟩ := q3
  obtain ⟨rfl, r4⟩ := q4
  refine ⟨?_, rfl, rfl⟩
  simp only [bodyC, Int.toNat_natCast]
  rw [r4] at b4
  rw [r3, b4] at b3
  rw [r2, b3] at b2
  rw [r1, b2] at b1
  rw [r0, b1] at b0
  exact b0
def getC (b : List Nat) : Ct × Int :=
  if (getN b).2 ≠ 0 then (ct0, (getN b).2)
  else if (getN b).1.ct ≠ 1 ∨ (scanC (getN b).1.lsn (getN b).1.ep (getN b).1.B).2.2 ≠ 0 ∨ (scanC (getN b).1.lsn (getN b).1.ep (getN b).1.B).2.1.length ≠ 0 ∨ rightC (scanC (getN b).1.lsn (getN b).1.ep (getN b).1.B).1 = false then (ct0, 20)
  else ((scanC (getN b).1.lsn (getN b).1.ep (getN b).1.B).1, 0)
def refgetC (b : List Nat) : Ct × Int :=
  if (getN b).2 ≠ 0 then (ct0, (getN b).2)
  else if (scanC (getN b).1.lsn (getN b).1.ep (getN b).1.B).2.2 ≠ 0 ∨ rightC (scanC (getN b).1.lsn (getN b).1.ep (getN b).1.B).1 = false ∨ putC (scanC (getN b).1.lsn (getN b).1.ep (getN b).1.B).1 ≠ b then (ct0, 20)
  else ((scanC (getN b).1.lsn (getN b).1.ep (getN b).1.B).1, 0)
theorem getC_put {c : Ct} (h : rightC c = true) : getC (putC c) = (c, 0) := by
  have hg : getN (putC c) = (frC c, 0) := getN_put _ (frC_right h) (bodyC_lt c)
  have hs : scanC (frC c).lsn (frC c).ep (frC c).B = (c, [], 0) := scanC_body h
  unfold getC
  rw [hg]
  simp only []
  rw [if_neg (by simp), hs]
  simp only []
  rw [if_neg (by simp [h, frC])]
theorem getC_ok {b : List Nat} (hB : ∀ x ∈ b, x < 256) (h : (getC b).2 = 0) : rightC (getC b).1 = true ∧ putC (getC b).1 = b := by
  unfold getC at h ⊢
  by_cases h1 : (getN b).2 ≠ 0
  · rw [if_pos h1] at h; exact absurd h h1
  · rw [if_neg h1] at h ⊢
    have h1' : (getN b).2 = 0 := by simpa using h1
    have hinv := getN_inv hB h1'
    have hbb := getN_B hB
    have hright := (rightN_iff _).1 (getN_right h1')
    obtain ⟨f, hf⟩ : ∃ f, f = (getN b).1 := ⟨_, rfl⟩
    rw [← hf] at h hinv hbb hright ⊢
    by_cases h2 : f.ct ≠ 1 ∨ (scanC f.lsn f.ep f.B).2.2 ≠ 0 ∨ (scanC f.lsn f.ep f.B).2.1.length ≠ 0 ∨ rightC (scanC f.lsn f.ep f.B).1 = false
    · rw [if_pos h2] at h; simp at h
    · rw [if_neg h2]
      simp only [not_or, ne_eq, Decidable.not_not, Bool.not_eq_false] at h2
      obtain ⟨k1, k2, k3, k4⟩ := h2
      refine ⟨k4, ?_⟩
      obtain ⟨e1, e2, e3⟩ := scanC_inv hbb (c := (scanC f.lsn f.ep f.B).1) (Prod.ext rfl (Prod.ext (List.length_eq_zero_iff.1 k3) k2))
      have : frC (scanC f.lsn f.ep f.B).1 = f := by
        obtain ⟨fl, fe, fi, fc, fb⟩ := f
        simp only [frC, ← e1, e2, e3]
        simp only [] at hright k1
        obtain rfl : fc = 1 := k1
        obtain rfl : fi = 0 := by omega
        rfl
      show putN _ = b
      rw [this]
      exact hinv.symm
theorem getC_ref {b : List Nat} (hB : ∀ x ∈ b, x < 256) : getC b = refgetC b := by
  by_cases h1 : (getN b).2 ≠ 0
  · unfold getC refgetC; rw [if_pos h1, if_pos h1]
  by_cases h0 : (getC b).2 = 0
  · have := getC_ok hB h0
    unfold getC at h0 this ⊢
    rw [if_neg h1] at h0 this ⊢
    unfold refgetC
    rw [if_neg h1]
    by_cases h2 : (getN b).1.ct ≠ 1 ∨ (scanC (getN b).1.lsn (getN b).1.ep (getN b).1.B).2.2 ≠ 0 ∨ (scanC (getN b).1.lsn (getN b).1.ep (getN b).1.B).2.1.length ≠ 0 ∨ rightC (scanC (getN b).1.lsn (getN b).1.ep (getN b).1.B).1 = false
    · rw [if_pos h2] at h0; simp at h0
    · rw [if_neg h2] at this ⊢
      simp only [not_or, ne_eq, Decidable.not_not, Bool.not_eq_false] at h2
      rw [if_neg (by simp only [not_or, ne_eq, Decidable.not_not, Bool.not_eq_false]; exact ⟨h2.2.1, h2.2.2.2, this.2⟩)]
  · have h20 : getC b = (ct0, 20) := by
      unfold getC at h0 ⊢
      rw [if_neg h1] at h0 ⊢
      split
      · rfl
      · rename_i h2; rw [if_neg h2] at h0; simp at h0
    rw [h20]
    unfold refgetC
    rw [if_neg h1]
    by_cases h2 : (scanC (getN b).1.lsn (getN b).1.ep (getN b).1.B).2.2 ≠ 0 ∨ rightC (scanC (getN b).1.lsn (getN b).1.ep (getN b).1.B).1 = false ∨ putC (scanC (getN b).1.lsn (getN b).1.ep (getN b).1.B).1 ≠ b
    · rw [if_pos h2]
    · simp only [not_or, ne_eq, Decidable.not_not, Bool.not_eq_false] at h2
      have := getC_put h2.2.1
      rw [h2.2.2] at this
      rw [this] at h0
      simp at h0
theorem getC_err {b : List Nat} (h : (getC b).2 ≠ 0) : (getC b).1 = ct0 := by
  unfold getC at h ⊢
  split
  · rfl
  · split
    · rfl
    · rename_i h1 h2; rw [if_neg h1, if_neg h2] at h; simp at h

/-- The one that counts so far, and a sector of the slot n. -/
def pickC (n : Nat) (cur : Ct) (b : List Nat) : Ct := if (getC b).2 = 0 ∧ (getC b).1.gen % 2 = n ∧ cur.gen < (getC b).1.gen then (getC b).1 else cur
def twoC (a b : List Nat) : Ct := pickC 1 (pickC 0 ct0 a) b
def resC (c : Ct) : Ct × Int := if c.gen = 0 then (ct0, 20) else (c, 0)
/-- What a slot of the number n tells: nothing of a Gen above g. -/
def atMost (g : Int) (b : List Nat) : Prop := (getC b).2 = 0 → (getC b).1.gen ≤ g
theorem pickC_atMost {n : Nat} {cur : Ct} {b : List Nat} (h : atMost cur.gen b) : pickC n cur b = cur := by
  unfold pickC
  rw [if_neg]
  rintro ⟨h1, _, h2⟩
  have := h h1
  omega
theorem pickC_put {n : Nat} {cur c : Ct} (hc : rightC c = true) (hn : c.gen % 2 = n) (hg : cur.gen < c.gen) : pickC n cur (putC c) = c := by
  unfold pickC
  rw [getC_put hc]
  rw [if_pos ⟨rfl, hn, hg⟩]
theorem pickC_le (n : Nat) (cur : Ct) (b : List Nat) (g : Int) (h : atMost g b) (h0 : cur.gen ≤ g) : (pickC n cur b).gen ≤ g := by
  unfold pickC
  split
  · rename_i h1; exact h h1.1
  · exact h0
/-- Two slots: a control is in its own; the other one tells none of its Gen or above. -/
theorem twoC_0 {c : Ct} {b : List Nat} (hc : rightC c = true) (hn : c.gen % 2 = 0) (hb : atMost c.gen b) : twoC (putC c) b = c := by
  have := (rightC_iff c).1 hc
  unfold twoC
  rw [pickC_put hc hn (by simp [ct0]; omega), pickC_atMost hb]
theorem twoC_1 {c : Ct} {a : List Nat} (hc : rightC c = true) (hn : c.gen % 2 = 1) (ha : atMost (c.gen - 1) a) : twoC a (putC c) = c := by
  have := (rightC_iff c).1 hc
  unfold twoC
  have hl := pickC_le 0 ct0 a (c.gen - 1) ha (by simp [ct0]; omega)
  rw [pickC_put hc hn (by omega)]
theorem resC_right {c : Ct} (hc : rightC c = true) : resC c = (c, 0) := by
  have := (rightC_iff c).1 hc
  unfold resC
  rw [if_neg (by omega)]
theorem atMost_put {c : Ct} {g : Int} (hc : rightC c = true) (h : c.gen ≤ g) : atMost g (putC c) := by
  intro _
  rw [getC_put hc]
  exact h
def zeros64 : List Nat := List.replicate 64 0
theorem getC_zeros : (getC zeros64).2 ≠ 0 := by
  have : getN zeros64 = (fr0, 20) := by
    unfold getN
    rw [if_pos (.inr (by decide))]
  unfold getC
  rw [this]
  simp
theorem atMost_zeros (g : Int) : atMost g zeros64 := fun h => absurd h getC_zeros
end Go.Proofs.Ytapoagpkjngjpaa
