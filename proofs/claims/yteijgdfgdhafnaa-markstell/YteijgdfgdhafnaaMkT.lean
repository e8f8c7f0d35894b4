/-
  Marks in memory; At, has, Most, isCommit.
-/
import Derived.Test.YteijgdfgdhafnaaIT
import Derived.Test.YteijgdfgdhafnaaMkMath
namespace Go.Proofs.Yteijgdfgdhafnaa
open Go.RowKit Go.Shelf
set_option linter.unusedSimpArgs false
set_option linter.unusedVariables false
set_option maxRecDepth 100000

theorem Try.info51 : (Try.prog.info? 51).map (fun i => (i.zero, i.size, i.bytes)) = some (some (.agg #[.slice none 0 0]), 1, 24) := by kernel_rfl
theorem Try.agg51 : aggSize Try.prog 51 1 := by
  obtain ⟨i0, hi, _, hs, _⟩ := info_parts Try.info51
  exact ⟨⟨i0, hi, hs⟩, _, Try.underlying51, .inr ⟨_, rfl⟩⟩
def ZV (l : List Int) : List Value := l.map fun k : Int => .int .i64 k
theorem ZV_length (l : List Int) : (ZV l).length = l.length := by simp [ZV]
theorem ZV_append (a b : List Int) : ZV (a ++ b) = ZV a ++ ZV b := by simp [ZV]
theorem ZV_get {l : List Int} {k : Nat} (h : k < l.length) : (ZV l)[k]? = some (.int .i64 l[k]) := by simp [ZV, h]
theorem ZV_one (l : List Int) : ∀ u ∈ ZV l, u.oneCell' = true := by
  intro u hu
  simp only [ZV, List.mem_map] at hu
  obtain ⟨k, _, rfl⟩ := hu
  rfl
/-- Marks with the numbers l: block b holds the slice, block g the numbers. -/
def MkAt (w : World) (b g cap : Nat) (C : List Value) (l : List Int) : Prop := Blk w b [.slice (some ⟨g, 0, none⟩) l.length cap] 51 ∧ Blk w g (ZV l ++ C) 3 ∧ l.length ≤ cap ∧ l.length ≤ 64
theorem MkAt.ne {w : World} {b g cap : Nat} {C : List Value} {l : List Int} (h : MkAt w b g cap C l) : b ≠ g := h.1.ne h.2.1 (by decide)
theorem MkAt.keptX {w w' : World} {b g cap : Nat} {C : List Value} {l : List Int} {S : Nat → Prop} (h : MkAt w b g cap C l) (hk : Kept S w w') (hb : ¬ S b) (hg : ¬ S g) : MkAt w' b g cap C l := ⟨hk.blk h.1 hb, hk.blk h.2.1 hg, h.2.2⟩
theorem MkAt.kept {w w' : World} {b g cap : Nat} {C : List Value} {l : List Int} (h : MkAt w b g cap C l) (hk : Kept (fun _ => False) w w') : MkAt w' b g cap C l := h.keptX hk (fun h => h) (fun h => h)
theorem MkAt.cell {w : World} {b g cap : Nat} {C : List Value} {l : List Int} (h : MkAt w b g cap C l) : w.cell? ⟨b, 0, none⟩ = some (.slice (some ⟨g, 0, none⟩) l.length cap) := h.1.cell 0
theorem MkAt.get {w : World} {b g cap : Nat} {C : List Value} {l : List Int} (h : MkAt w b g cap C l) {k : Nat} (hk : k < l.length) : w.cell? ⟨g, k, none⟩ = some (.int .i64 l[k]) := by
  rw [h.2.1.cell, List.getElem?_append_left (by rw [ZV_length]; exact hk), ZV_get hk]
theorem isCommit_at (w : World) (n : Int) (r : Bool) (hr : mkNum n = r) : Calls Try.prog 15 #[.int .i64 n] w fun e w' => e = .returned (.bool r) ∧ w = w' := by
  have HR := hide hr
  clear hr
  by_cases h0 : 0 ≤ n
  · by_cases h1 : n ≤ 1099511627776
    · go_enter Try.func15, Try.ntmps15
      go_wp2
      go_ret
      exact ⟨by rw [← HR.out]; simp [mkNum, h0, h1], rfl⟩
    · go_enter Try.func15, Try.ntmps15
      go_wp2
      go_ret
      exact ⟨by rw [← HR.out]; simp [mkNum]; omega, rfl⟩
  · go_enter Try.func15, Try.ntmps15
    go_wp2
    go_ret
    exact ⟨by rw [← HR.out]; simp [mkNum]; omega, rfl⟩
theorem has_at (w : World) (b g cap : Nat) (C : List Value) (l : List Int) (h : MkAt w b g cap C l) (k : Int) (r : Bool) (hr : mkIn l.length k = r) : Calls Try.prog 18 #[.pointer (some ⟨b, 0, none⟩), .int .i64 k] w fun e w' => e = .returned (.bool r) ∧ w = w' := by
  have HR := hide hr
  have c0 := h.cell
  clear hr h
  obtain ⟨n, hn⟩ : ∃ n, l.length = n := ⟨_, rfl⟩
  rw [hn] at c0 HR
  clear hn
  by_cases h0 : 0 ≤ k
  · by_cases h1 : k < n
    · go_enter Try.func18, Try.ntmps18
      go_wp2
      go_ret
      exact ⟨by rw [← HR.out]; simp [mkIn, h0, h1], rfl⟩
    · go_enter Try.func18, Try.ntmps18
      go_wp2
      go_ret
      exact ⟨by rw [← HR.out]; simp [mkIn]; omega, rfl⟩
  · go_enter Try.func18, Try.ntmps18
    go_wp2
    go_ret
    exact ⟨by rw [← HR.out]; simp [mkIn]; omega, rfl⟩
theorem at_at (w : World) (b g cap : Nat) (C : List Value) (l : List Int) (h : MkAt w b g cap C l) (k : Int) : Calls Try.prog 10 #[.pointer (some ⟨b, 0, none⟩), .int .i64 k] w fun e w' => e = .returned (.int .i64 (mkAt l k)) ∧ w = w' := by
  have c0 := h.cell
  by_cases h0 : mkIn l.length k = true
  · have HH := hide (has_at w b g cap C l h k true h0)
    have h1 : 0 ≤ k ∧ k < (l.length : Int) := of_decide_eq_true h0
    obtain ⟨j, rfl⟩ : ∃ j : Nat, k = j := ⟨k.toNat, by omega⟩
    have hj : j < l.length := by omega
    have c1 := h.get hj
    have HE : Hid (mkAt l j = l[j]) := hide (by unfold mkAt; rw [if_pos h0]; simp [hj])
    obtain ⟨n, hn⟩ : ∃ n, l.length = n := ⟨_, rfl⟩
    obtain ⟨x, hx⟩ : ∃ x, l[j] = x := ⟨_, rfl⟩
    rw [hx] at c1 HE
    rw [HE.out]
    rw [hn] at c0 hj
    clear h h0 h1 hn hx HE
    go_enter Try.func10, Try.ntmps10
    go_wp2_with (go_at_call 18; refine HH.out.mono ?_; rintro e w1 ⟨rfl, rfl⟩)
    go_ret
    exact ⟨rfl, rfl⟩
  · have h0 := Bool.eq_false_iff.2 h0
    have HH := hide (has_at w b g cap C l h k false h0)
    have HE : Hid (mkAt l k = -1) := hide (by unfold mkAt; rw [h0]; rfl)
    rw [HE.out]
    clear h h0 c0 HE
    go_enter Try.func10, Try.ntmps10
    go_wp2_with (go_at_call 18; refine HH.out.mono ?_; rintro e w1 ⟨rfl, rfl⟩)
    go_ret
    exact ⟨rfl, rfl⟩
theorem at_nil (w : World) (k : Int) : Calls Try.prog 10 #[.pointer none, .int .i64 k] w fun e w' => e = .returned (.int .i64 (-1)) ∧ w = w' := by
  go_enter Try.func10, Try.ntmps10
  go_wp2
  go_ret
  exact ⟨rfl, rfl⟩
theorem most_nil (w : World) : Calls Try.prog 11 #[.pointer none] w fun e w' => e = .returned (.int .i64 (-1)) ∧ w = w' := by
  go_enter Try.func11, Try.ntmps11
  go_wp2
  go_ret
  exact ⟨rfl, rfl⟩
theorem since_nil (w : World) (k : Int) : Calls Try.prog 9 #[.pointer none, .int .i64 k] w fun e w' => e = .returned (.slice none 0 0) ∧ w = w' := by
  go_enter Try.func9, Try.ntmps9
  go_wp2
  go_ret
  exact ⟨rfl, rfl⟩
theorem clone_nil (w : World) : Calls Try.prog 12 #[.pointer none] w fun e w' => e = .returned (.pointer none) ∧ w = w' := by
  go_enter Try.func12, Try.ntmps12
  go_wp2
  go_ret
  exact ⟨rfl, rfl⟩
theorem note_nil (w : World) (k : Int) (v : Value) : Calls Try.prog 8 #[.pointer none, .int .i64 k, v] w fun e w' => e = .returned (.int .i64 1) ∧ w = w' := by
  go_enter Try.func8, Try.ntmps8
  go_wp2
  go_ret
  exact ⟨rfl, rfl⟩
section
variable {ρ : Operand → Value} {w : World} {dst : Option Tmp} {ty : TypeId} {pos : String} {aft : Array Edge} {gd : Option (Nat × Bool)} {x y z : Operand}
theorem r_max3 {p q r : Int} (hx : ρ x = .int .i64 p) (hy : ρ y = .int .i64 q) (hr : max p q = r) : (execOp ρ ⟨dst, .call { callee := .builtin .max, args := #[x, y], argTypes := #[3, 3] }, ty, pos, aft, gd⟩).run Try.prog w = .ok (.value (.int .i64 r)) w := by
  subst hr
  by_cases h : p < q
  · go_simp
    omega
  · go_simp
    omega
end
theorem most_succ {l : List Int} {k : Nat} (h : k < l.length) : mkMost (l.take (k + 1)) = max (mkMost (l.take k)) l[k] := by
  unfold mkMost
  rw [List.take_succ_eq_append_getElem h, List.foldl_append]
  rfl
theorem most_at (w : World) (b g cap : Nat) (C : List Value) (l : List Int) (h : MkAt w b g cap C l) : Calls Try.prog 11 #[.pointer (some ⟨b, 0, none⟩)] w fun e w' => e = .returned (.int .i64 (mkMost l)) ∧ w = w' := by
  have c0 := h.cell
  have HG := hide (fun (k : Nat) (hk : k < l.length) => h.get hk)
  obtain ⟨n, hn⟩ : ∃ n, l.length = n := ⟨_, rfl⟩
  have Hn := hide hn
  have h64 := h.2.2.2
  rw [hn] at c0 h64
  clear h hn
  go_enter Try.func11, Try.ntmps11
  go_wp2
  go_loopw [3, 13] (fun o i wr => ∃ k : Nat, ∃ q : Int, i = .int .i64 k ∧ k ≤ n ∧ o = .int .i64 q ∧ Hid (q = mkMost (l.take k)) ∧ w = wr) (fun _ i _ => n - (intOf i).toNat)
  case atStart => exact ⟨0, -1, rfl, Nat.zero_le _, rfl, hide rfl, rfl⟩
  case round =>
    obtain ⟨k, q, rfl, hk, rfl, HQ, rfl⟩ := hrel
    by_cases hlt : k < n
    · have hkl : k < l.length := by rw [Hn.out]; exact hlt
      have c1 := HG.out k hkl
      have HS := hide (most_succ hkl)
      obtain ⟨x, hx⟩ : ∃ x, l[k] = x := ⟨_, rfl⟩
      rw [hx] at c1 HS
      rw [← HQ.out] at HS
      obtain ⟨m, hm⟩ : ∃ m, max q x = m := ⟨_, rfl⟩
      rw [hm] at HS
      have HM := hide hm
      clear hx hm hkl
      go_wp2_with (with_reducible refine wpList_run rfl (r_max3 (r := m) rfl rfl HM.out) ?_)
      go_roundw
      case rel => exact ⟨k + 1, m, by simp, by omega, rfl, hide HS.out.symm, trivial⟩
      case measure => simp [intOf]; omega
    · have hkn : k = n := by omega
      subst hkn
      have HE : Hid (q = mkMost l) := hide (by rw [HQ.out, List.take_of_length_le (by rw [Hn.out]; exact Nat.le_refl _)])
      go_wp2
      go_ret
      exact ⟨by rw [HE.out]; rfl, rfl⟩
end Go.Proofs.Yteijgdfgdhafnaa
