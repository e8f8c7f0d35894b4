/-
  The reference's Get is Get: plain functions over lists of numbers.
-/
import Derived.Test.YtjkggmjcaedggaaFMath
namespace Go.Proofs.Ytjkggmjcaedggaa
set_option linter.unusedSimpArgs false
set_option linter.unusedVariables false

def refScanN (b : List Nat) : Fr × Int :=
  let s1 := scanNum (b.drop 2) 0 8
  let s2 := scanNum s1.2.1 s1.2.2 4
  let s3 := scanNum s2.2.1 s2.2.2 2
  let s4 := scanNum s3.2.1 s3.2.2 2
  let s5 := scanText s4.2.1 s4.2.2 40
  (⟨s1.1, s2.1, s3.1, s4.1, s5.1⟩, s5.2.2)
def refGetN (b : List Nat) : Fr × Int :=
  if b.length ≠ 64 ∨ b.getD 0 0 ≠ 183 ∨ b.getD 1 0 ≠ 30 then (fr0, 20)
  else if markN b ≠ b then (fr0, 21)
  else if (refScanN b).2 ≠ 0 ∨ rightN (refScanN b).1 = false ∨ putN (refScanN b).1 ≠ b then (fr0, 20)
  else ((refScanN b).1, 0)
theorem refScan_put (f : Fr) (hr : rightN f = true) : refScanN (putN f) = (f, 0) := by
  obtain ⟨h1, h2, h3, h4, h5, h6, h7, h8⟩ := (rightN_iff f).1 hr
  have e : (putN f).drop 2 = numB f.lsn.toNat 8 ++ (numB f.ep.toNat 4 ++ (numB f.ix.toNat 2 ++ (numB f.ct.toNat 2 ++ (textB f.B ++ (List.replicate (60 - (headN f).length) 0 ++ fourN (joinN 0 (headN f ++ List.replicate (60 - (headN f).length) 0))))))) := by
    rw [putN_eq f h5]
    generalize fourN (joinN 0 (headN f ++ List.replicate (60 - (headN f).length) 0)) = q
    generalize List.replicate (60 - (headN f).length) 0 = z
    unfold headN
    simp only [List.append_assoc]
    rw [drop_num]
  unfold refScanN
  rw [e]
  simp only []
  rw [sn8 f.lsn.toNat _ (by omega)]
  simp only []
  rw [sn4 f.ep.toNat _ (by omega)]
  simp only []
  rw [sn2 f.ix.toNat _ (by omega)]
  simp only []
  rw [sn2 f.ct.toNat _ (by omega)]
  simp only []
  rw [scanText_text f.B _ 40 (by omega) (by omega)]
  have ef : (⟨(f.lsn.toNat : Int), (f.ep.toNat : Int), (f.ix.toNat : Int), (f.ct.toNat : Int), f.B⟩ : Fr) = f := by
    cases f
    simp at h1 h3 h6 h7 ⊢
    omega
  simp only [ef]
theorem begins {b : List Nat} (hB : ∀ x ∈ b, x < 256) (hl : b.length = 64) : (scanNum b 0 2).1 = 46878 ↔ b.getD 0 0 = 183 ∧ b.getD 1 0 = 30 := by
  match b, hl with
  | x :: y :: r, hl =>
    have hx := hB x (by simp)
    have hy := hB y (by simp)
    have hf : firstN (x :: y :: r) 2 = some (x * 256 + y) := by
      unfold firstN
      have hv : valN (List.take (2 : Int).toNat (x :: y :: r)) = x * 256 + y := by simp [valN]
      rw [hv, if_pos ⟨by decide, by decide, by simp at hl ⊢; omega, by omega⟩]
    unfold scanNum
    rw [if_neg (by simp), hf]
    simp only [List.getD_cons_zero, List.getD_cons_succ]
    omega
theorem refScan_B {b : List Nat} (hB : ∀ x ∈ b, x < 256) : ∀ x ∈ (refScanN b).1.B, x < 256 := by
  unfold refScanN
  exact (scanText_lt (scanNum_lt (scanNum_lt (scanNum_lt (scanNum_lt (fun x hx => hB x (List.mem_of_mem_drop hx))))))).1
theorem get_eq_ref {b : List Nat} (hB : ∀ x ∈ b, x < 256) : getN b = refGetN b := by
  by_cases hl : b.length = 64
  case neg =>
    unfold getN refGetN
    rw [if_pos (.inl hl), if_pos (.inl hl)]
  case pos =>
  have hp := begins hB hl
  by_cases h2 : (scanNum b 0 2).1 = 46878
  case neg =>
    have h3 : b.getD 0 0 ≠ 183 ∨ b.getD 1 0 ≠ 30 := by
      rcases Nat.decEq (b.getD 0 0) 183 with h | h
      · exact .inl h
      · rcases Nat.decEq (b.getD 1 0) 30 with h' | h'
        · exact .inr h'
        · exact absurd (hp.2 ⟨h, h'⟩) h2
    unfold getN refGetN
    rw [if_pos (.inr h2), if_pos (.inr h3)]
  case pos =>
  have hp2 := hp.1 h2
  have hg := goodN_iff b hB
  by_cases hm : markN b = b
  case neg =>
    have hg2 : goodN b = false := by rw [hg]; simp [hm]
    unfold getN refGetN
    rw [if_neg (by simp [hl, h2]), if_pos hg2, if_neg (by simp only [not_or, Decidable.not_not]; exact ⟨hl, hp2⟩), if_pos hm]
  case pos =>
  have hg2 : goodN b = true := by rw [hg]; simp [hm, hl]
  have href : refGetN b = if (refScanN b).2 ≠ 0 ∨ rightN (refScanN b).1 = false ∨ putN (refScanN b).1 ≠ b then (fr0, 20) else ((refScanN b).1, 0) := by
    unfold refGetN
    rw [if_neg (by simp only [not_or, Decidable.not_not]; exact ⟨hl, hp2⟩), if_neg (by simp [hm])]
  rw [href]
  by_cases hc : (refScanN b).2 ≠ 0 ∨ rightN (refScanN b).1 = false ∨ putN (refScanN b).1 ≠ b
  · rw [if_pos hc]
    cases hr : (readN (b.take 60)).2 with
    | false =>
      unfold getN
      rw [if_neg (by simp [hl, h2]), if_neg (by simp [hg2]), if_neg (by simp [hr])]
    | true =>
      exfalso
      have h0 : (getN b).2 = 0 := by
        unfold getN
        rw [if_neg (by simp [hl, h2]), if_neg (by simp [hg2]), if_pos hr]
      have hrt := getN_right h0
      have hb := getN_inv hB h0
      have hs := refScan_put _ hrt
      rw [← hb] at hs
      rw [hs] at hc
      rcases hc with h | h | h
      · exact h rfl
      · rw [hrt] at h; cases h
      · exact h hb.symm
  · rw [if_neg hc]
    simp only [not_or, Decidable.not_not, Bool.not_eq_false] at hc
    have := getN_put _ hc.2.1 (refScan_B hB)
    rw [hc.2.2] at this
    exact this
end Go.Proofs.Ytjkggmjcaedggaa
