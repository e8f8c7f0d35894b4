/-
  Records and their bytes: plain functions over lists of numbers. No condition beyond each law's own premises.
-/
import Derived.Test.YtcdlgaknpmlfeaaRMath
namespace Go.Proofs.Ytcdlgaknpmlfeaa
set_option linter.unusedSimpArgs false
set_option linter.unusedVariables false

structure Rc where
  kind : Int
  tl : Int
  num : Int
  ws : List Wr
/-- Blocks that rise above lo, each with its 64 bytes. -/
def goodFrom : Int → List Wr → Bool
  | _, [] => true
  | lo, w :: l => decide (lo < w.blk ∧ 0 ≤ w.blk ∧ w.blk < 64 ∧ w.B.length = 64) && goodFrom w.blk l
def tnOk (r : Rc) : Bool := decide (1 ≤ r.tl ∧ r.tl ≤ 2147483647 ∧ 0 ≤ r.num ∧ r.num ≤ 1099511627776)
def rightR (r : Rc) : Bool :=
  if r.kind = 2 then decide (r.tl = 0 ∧ r.num = 0 ∧ r.ws.length = 0)
  else if r.kind = 1 then tnOk r && decide (r.ws.length = 0)
  else if r.kind = 3 then tnOk r && decide (0 < r.num) && goodFrom (-1) r.ws
  else false
def encW (w : Wr) : List Nat := numB w.blk.toNat 2 ++ w.B
def encWs (l : List Wr) : List Nat := l.flatMap encW
def putR (r : Rc) : List Nat :=
  numB r.kind.toNat 1 ++ (if r.kind = 2 then [] else numB r.tl.toNat 4 ++ (numB r.num.toNat 8 ++ (if r.kind = 3 then numB r.ws.length 2 ++ encWs r.ws else [])))
theorem goodFrom_mem : ∀ {l : List Wr} {lo : Int}, goodFrom lo l = true → ∀ w ∈ l, lo < w.blk ∧ 0 ≤ w.blk ∧ w.blk < 64 ∧ w.B.length = 64
  | x :: l, lo, h, w, hw => by
    simp only [goodFrom, Bool.and_eq_true, decide_eq_true_eq] at h
    rcases List.mem_cons.1 hw with rfl | hw
    · exact h.1
    · have := goodFrom_mem h.2 w hw
      exact ⟨by omega, this.2⟩
theorem goodFrom_len : ∀ {l : List Wr} {lo : Int}, -1 ≤ lo → lo ≤ 63 → goodFrom lo l = true → (l.length : Int) ≤ 63 - lo
  | [], lo, h0, h1, _ => by simp; omega
  | x :: l, lo, h0, h1, h => by
    simp only [goodFrom, Bool.and_eq_true, decide_eq_true_eq] at h
    have := goodFrom_len (l := l) (lo := x.blk) (by omega) (by omega) h.2
    simp only [List.length_cons]
    omega
theorem encWs_length : ∀ {l : List Wr}, (∀ w ∈ l, w.B.length = 64) → (encWs l).length = 66 * l.length
  | [], _ => rfl
  | x :: l, h => by
    have h1 := h x (by simp)
    have h2 := encWs_length (l := l) (fun w hw => h w (by simp [hw]))
    unfold encWs at h2 ⊢
    rw [List.flatMap_cons, List.length_append, h2]
    simp [encW, numB_length, h1]
    omega
/-- So many writes are scanned. -/
def scanWs : Nat → List Nat → Int → List Wr × List Nat × Int
  | 0, S, E => ([], S, E)
  | n + 1, S, E =>
    if E ≠ 0 then ([], S, E)
    else if (scanNum S E 2).2.1.length < 64 then ([], (scanNum S E 2).2.1, 20)
    else (⟨(scanNum S E 2).1, (scanNum S E 2).2.1.take 64⟩ :: (scanWs n ((scanNum S E 2).2.1.drop 64) (scanNum S E 2).2.2).1, (scanWs n ((scanNum S E 2).2.1.drop 64) (scanNum S E 2).2.2).2)
theorem scanWs_put : ∀ (l : List Wr) (lo : Int) (R : List Nat), goodFrom lo l = true → scanWs l.length (encWs l ++ R) 0 = (l, R, 0)
  | [], lo, R, _ => rfl
  | w :: l, lo, R, h => by
    have hm := goodFrom_mem h w (by simp)
    simp only [goodFrom, Bool.and_eq_true] at h
    have ih := scanWs_put l w.blk R h.2
    have e : encWs (w :: l) ++ R = numB w.blk.toNat 2 ++ (w.B ++ (encWs l ++ R)) := by simp [encWs, encW]
    have hs := sn2 w.blk.toNat (w.B ++ (encWs l ++ R)) (by omega)
    rw [List.length_cons, e]
    unfold scanWs
    rw [if_neg (by simp), hs]
    simp only []
    rw [if_neg (by simp; omega), List.drop_left' hm.2.2.2, List.take_left' hm.2.2.2, ih]
    have : ((w.blk.toNat : Nat) : Int) = w.blk := by omega
    rw [this]
theorem scanWs_inv : ∀ (n : Nat) (S : List Nat) (E : Int) (l : List Wr) (R : List Nat), (∀ x ∈ S, x < 256) → scanWs n S E = (l, R, 0) → E = 0 ∧ l.length = n ∧ S = encWs l ++ R ∧ (∀ w ∈ l, w.B.length = 64 ∧ ∀ x ∈ w.B, x < 256) ∧ ∀ x ∈ R, x < 256
  | 0, S, E, l, R, hS, h => by
    simp only [scanWs, Prod.mk.injEq] at h
    obtain ⟨rfl, rfl, rfl⟩ := h
    exact ⟨rfl, rfl, rfl, by simp, hS⟩
  | n + 1, S, E, l, R, hS, h => by
    unfold scanWs at h
    by_cases hE : E = 0
    · subst hE
      rw [if_neg (by simp)] at h
      by_cases hl : (scanNum S 0 2).2.1.length < 64
      · rw [if_pos hl] at h
        simp at h
      · rw [if_neg hl] at h
        have hlt := scanNum_lt (E := 0) (w := 2) hS
        obtain ⟨ws, R', E', hw⟩ : ∃ a b c, scanWs n ((scanNum S 0 2).2.1.drop 64) (scanNum S 0 2).2.2 = (a, b, c) := ⟨_, _, _, rfl⟩
        rw [hw] at h
        simp only [Prod.mk.injEq] at h
        obtain ⟨rfl, rfl, rfl⟩ := h
        obtain ⟨i1, i2, i3, i4, i5⟩ := scanWs_inv n _ _ ws R' (fun x hx => hlt x (List.mem_of_mem_drop hx)) hw
        obtain ⟨-, k, hk, hk2, -, hS2⟩ := scanNum_inv (w := 2) hS i1
        have hk' : scanNum S 0 2 = ((k : Int), S.drop 2, 0) := hk
        rw [hk'] at i3 hl hlt ⊢
        simp only [] at i3 hl hlt ⊢
        refine ⟨trivial, by simp [i2], ?_, ?_, i5⟩
        · have e : encWs (⟨(k : Int), (S.drop 2).take 64⟩ :: ws) = numB k 2 ++ ((S.drop 2).take 64 ++ encWs ws) := by simp [encWs, encW]
          rw [e]
          conv => lhs; rw [hS2, ← List.take_append_drop 64 (S.drop 2), i3]
          simp only [List.append_assoc]
        · intro w hw2
          rcases List.mem_cons.1 hw2 with rfl | hw2
          · refine ⟨by simp at hl ⊢; omega, fun x hx => hlt x (List.mem_of_mem_take hx)⟩
          · exact i4 w hw2
    · rw [if_pos hE] at h
      simp only [Prod.mk.injEq] at h
      exact absurd h.2.2 hE

/-- What a record's bytes tell: the record, what is left, the error. -/
def readR (b : List Nat) : Rc × List Nat × Int :=
  if (scanNum b 0 1).1 = 2 then (⟨(scanNum b 0 1).1, 0, 0, []⟩, (scanNum b 0 1).2)
  else
    let s1 := scanNum (scanNum b 0 1).2.1 (scanNum b 0 1).2.2 4
    let s2 := scanNum s1.2.1 s1.2.2 8
    if (scanNum b 0 1).1 = 3 then
      let s3 := scanNum s2.2.1 s2.2.2 2
      (⟨(scanNum b 0 1).1, s1.1, s2.1, (scanWs s3.1.toNat s3.2.1 s3.2.2).1⟩, (scanWs s3.1.toNat s3.2.1 s3.2.2).2)
    else (⟨(scanNum b 0 1).1, s1.1, s2.1, []⟩, s2.2)
def getR (b : List Nat) : Option Rc := if (readR b).2.2 ≠ 0 ∨ (readR b).2.1 ≠ [] ∨ rightR (readR b).1 = false then none else some (readR b).1
theorem sn1 (n : Nat) (R : List Nat) (hn : n < 256) : scanNum (numB n 1 ++ R) 0 1 = ((n : Int), R, 0) := scanNum_num n 1 R (by decide) (by decide) (by simpa using hn) (by omega)
theorem readR_put (r : Rc) (hr : rightR r = true) : readR (putR r) = (r, [], 0) := by
  obtain ⟨kd, tl, num, ws⟩ := r
  unfold rightR at hr
  simp only [] at hr
  by_cases h2 : kd = 2
  · subst h2
    rw [if_pos rfl] at hr
    simp at hr
    obtain ⟨rfl, rfl, rfl⟩ := hr
    have e : putR ⟨2, 0, 0, []⟩ = numB 2 1 ++ [] := by simp [putR]
    unfold readR
    rw [e, sn1 2 [] (by decide)]
    rfl
  · rw [if_neg h2] at hr
    have ht : tnOk ⟨kd, tl, num, ws⟩ = true ∧ (kd = 1 ∨ kd = 3) := by
      by_cases h1 : kd = 1
      · rw [if_pos h1] at hr; simp only [Bool.and_eq_true] at hr; exact ⟨hr.1, .inl h1⟩
      · rw [if_neg h1] at hr
        by_cases h3 : kd = 3
        · rw [if_pos h3] at hr; simp only [Bool.and_eq_true] at hr; exact ⟨hr.1.1, .inr h3⟩
        · rw [if_neg h3] at hr; cases hr
    obtain ⟨ht, hk⟩ := ht
    simp only [tnOk, decide_eq_true_eq] at ht
    have htl : ((tl.toNat : Nat) : Int) = tl := by omega
    have hnm : ((num.toNat : Nat) : Int) = num := by omega
    rcases hk with rfl | rfl
    · simp only [] at hr
      simp at hr
      obtain ⟨-, rfl⟩ := hr
      have e : putR ⟨1, tl, num, []⟩ = numB 1 1 ++ (numB tl.toNat 4 ++ (numB num.toNat 8 ++ [])) := by simp [putR]
      unfold readR
      rw [e, sn1 1 _ (by decide)]
      simp only []
      rw [if_neg (by decide), sn4 tl.toNat _ (by omega)]
      simp only []
      rw [sn8 num.toNat _ (by omega)]
      simp only []
      rw [if_neg (by decide), htl, hnm]
      rfl
    · rw [if_neg (by decide), if_pos rfl] at hr
      simp only [Bool.and_eq_true] at hr
      have hg := hr.2
      have hl := goodFrom_len (lo := -1) (by decide) (by decide) hg
      have e : putR ⟨3, tl, num, ws⟩ = numB 3 1 ++ (numB tl.toNat 4 ++ (numB num.toNat 8 ++ (numB ws.length 2 ++ (encWs ws ++ [])))) := by simp [putR]
      unfold readR
      rw [e, sn1 3 _ (by decide)]
      simp only []
      rw [if_neg (by decide), sn4 tl.toNat _ (by omega)]
      simp only []
      rw [sn8 num.toNat _ (by omega)]
      simp only []
      have hc : ((3 : Nat) : Int) = 3 := rfl
      rw [if_pos hc, sn2 ws.length _ (by omega)]
      simp only [Int.toNat_natCast]
      rw [scanWs_put ws (-1) [] hg, htl, hnm]
      rfl
theorem getR_put (r : Rc) (hr : rightR r = true) : getR (putR r) = some r := by
  unfold getR
  rw [readR_put r hr, if_neg (by simp [hr])]
theorem getR_inv {b : List Nat} {r : Rc} (hB : ∀ x ∈ b, x < 256) (h : getR b = some r) : rightR r = true ∧ b = putR r := by
  unfold getR at h
  split at h
  · cases h
  · rename_i hc
    simp only [not_or, Decidable.not_not, Bool.not_eq_false, ne_eq] at hc
    obtain ⟨hE, hS, hR⟩ := hc
    have hr : readR b = (r, [], 0) := by
      have h1 : (readR b).1 = r := Option.some.inj h
      rw [← h1, ← hS, ← hE]
    rw [Option.some.inj h] at hR
    refine ⟨hR, ?_⟩
    have l0 := scanNum_lt (E := 0) (w := 1) hB
    unfold readR at hr
    by_cases h2 : (scanNum b 0 1).1 = 2
    · rw [if_pos h2] at hr
      simp only [Prod.mk.injEq] at hr
      obtain ⟨rfl, hs⟩ := hr
      obtain ⟨-, n, hn, _, _, hb⟩ := scanNum_inv (E := 0) (w := 1) hB (by rw [show ((1 : Nat) : Int) = 1 from rfl, hs])
      have hn' : scanNum b 0 1 = ((n : Int), b.drop 1, 0) := hn
      rw [hn'] at h2 hs ⊢
      simp only [] at h2 hs ⊢
      simp only [Prod.mk.injEq] at hs
      obtain rfl : n = 2 := by omega
      rw [hb, hs.1]
      simp [putR]
    · rw [if_neg h2] at hr
      simp only [] at hr
      have l1 := scanNum_lt (E := (scanNum b 0 1).2.2) (w := 4) l0
      generalize hs1 : scanNum (scanNum b 0 1).2.1 (scanNum b 0 1).2.2 4 = s1 at *
      have l2 := scanNum_lt (E := s1.2.2) (w := 8) l1
      generalize hs2 : scanNum s1.2.1 s1.2.2 8 = s2 at *
      have fin : ∀ (q : List Nat), s2.2.2 = 0 → s2.2.1 = q → ∃ k t n : Nat, (scanNum b 0 1).1 = (k : Int) ∧ s1.1 = (t : Int) ∧ s2.1 = (n : Int) ∧ b = numB k 1 ++ (numB t 4 ++ (numB n 8 ++ q)) := by
        intro q e2 hq
        obtain ⟨e1, n, hn, _, _, hb2⟩ := scanNum_inv (w := 8) l1 (by rw [show ((8 : Nat) : Int) = 8 from rfl, hs2]; exact e2)
        have hn' : s2 = ((n : Int), s1.2.1.drop 8, 0) := hs2.symm.trans hn
        obtain ⟨e0, t, ht, _, _, hb1⟩ := scanNum_inv (w := 4) l0 (by rw [show ((4 : Nat) : Int) = 4 from rfl, hs1]; exact e1)
        have ht' : s1 = ((t : Int), (scanNum b 0 1).2.1.drop 4, 0) := hs1.symm.trans ht
        obtain ⟨-, k, hk, _, _, hb0⟩ := scanNum_inv (E := 0) (w := 1) hB e0
        have hk' : scanNum b 0 1 = ((k : Int), b.drop 1, 0) := hk
        have a0 : (scanNum b 0 1).2.1 = b.drop 1 := by rw [hk']
        have a1 : s1.2.1 = (scanNum b 0 1).2.1.drop 4 := by rw [ht']
        have a2 : s2.2.1 = s1.2.1.drop 8 := by rw [hn']
        refine ⟨k, t, n, by rw [hk'], by rw [ht'], by rw [hn'], ?_⟩
        conv => lhs; rw [hb0, ← a0, hb1, ← a1, hb2, ← a2, hq]
      by_cases h3 : (scanNum b 0 1).1 = 3
      · rw [if_pos h3] at hr
        generalize hs3 : scanNum s2.2.1 s2.2.2 2 = s3 at *
        have l3 := scanNum_lt (E := s2.2.2) (w := 2) l2
        rw [hs3] at l3
        obtain ⟨ws, R, E, hw⟩ : ∃ a b c, scanWs s3.1.toNat s3.2.1 s3.2.2 = (a, b, c) := ⟨_, _, _, rfl⟩
        rw [hw] at hr
        simp only [Prod.mk.injEq] at hr
        obtain ⟨rfl, rfl, rfl⟩ := hr
        obtain ⟨i1, i2, i3, i4, i5⟩ := scanWs_inv _ _ _ ws [] l3 hw
        obtain ⟨e2, m, hm, hm2, _, hb3⟩ := scanNum_inv (w := 2) l2 (by rw [show ((2 : Nat) : Int) = 2 from rfl, hs3]; exact i1)
        have hm' : s3 = ((m : Int), s2.2.1.drop 2, 0) := hs3.symm.trans hm
        have a3 : s3.2.1 = s2.2.1.drop 2 := by rw [hm']
        have m1 : s3.1 = (m : Int) := by rw [hm']
        obtain ⟨k, t, n, k1, k2, k3, hb⟩ := fin _ e2 hb3
        rw [← a3, i3, List.append_nil] at hb
        rw [m1, Int.toNat_natCast] at i2
        have hk3 : k = 3 := by omega
        rw [k1, k2, k3, hk3, hb, hk3]
        simp [putR, i2]
      · rw [if_neg h3] at hr
        simp only [Prod.mk.injEq] at hr
        obtain ⟨rfl, hs⟩ := hr
        obtain ⟨k, t, n, k1, k2, k3, hb⟩ := fin [] (by rw [hs]) (by rw [hs])
        rw [k1, k2, k3, hb]
        have hk2 : ¬ (k : Int) = 2 := by omega
        have hk3 : ¬ (k : Int) = 3 := by omega
        simp [putR, hk2, hk3]
end Go.Proofs.Ytcdlgaknpmlfeaa
