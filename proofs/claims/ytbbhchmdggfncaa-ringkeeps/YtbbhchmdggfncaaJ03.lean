/-
  pack.isWidth, goesInto, missing, tell.
-/
import Derived.Test.YtbbhchmdggfncaaJ02
import Derived.StillTail
namespace Go.Proofs.Ytbbhchmdggfncaa
open Go.RowKit Go.Shelf
set_option linter.unusedSimpArgs false
set_option linter.unusedVariables false
set_option maxRecDepth 100000

theorem isWidth_at (w : World) (n : Int) : Calls Try.prog 86 #[.int .i64 n] w fun e w' => e = .returned (.bool (decide (1 ≤ n ∧ n ≤ 8))) ∧ w = w' := by
  by_cases h1 : 1 ≤ n
  · have h1' : n ≥ 1 := h1
    by_cases h8 : n ≤ 8
    · go_enter Try.func86, Try.ntmps86
      go_wp2
      go_ret
      exact ⟨by simp [h1, h8], rfl⟩
    · go_enter Try.func86, Try.ntmps86
      go_wp2
      go_ret
      exact ⟨by simp [h1, h8], rfl⟩
  · have h1' : ¬ n ≥ 1 := h1
    go_enter Try.func86, Try.ntmps86
    go_wp2
    go_ret
    exact ⟨by rw [decide_eq_false (by omega : ¬ 1 ≤ n)]; rfl, rfl⟩

theorem fits_no {n w : Int} (h : ¬ (1 ≤ w ∧ w ≤ 8)) : fitsN n w = false := by unfold fitsN; rw [decide_eq_false]; intro h2; exact h ⟨h2.1, h2.2.1⟩
theorem fits_neg {n w : Int} (h : n < 0) : fitsN n w = false := by unfold fitsN; rw [decide_eq_false]; omega
theorem fits_yes {n w : Nat} (h1 : 1 ≤ w) (h8 : w ≤ 8) : fitsN n w = decide (n / 2 ^ (8 * w) = 0) := by
  unfold fitsN
  rw [decide_eq_decide, pow_8, Int.toNat_natCast, Int.toNat_natCast]
  have hp : 0 < 256 ^ w := Nat.pow_pos (by decide)
  rw [Nat.div_eq_zero_iff]
  omega
theorem fits_of {n w : Int} (h : fitsN n w = true) : ∃ a b : Nat, n = a ∧ w = b ∧ 1 ≤ b ∧ b ≤ 8 ∧ a < 256 ^ b := by
  unfold fitsN at h
  simp only [decide_eq_true_eq] at h
  exact ⟨n.toNat, w.toNat, by omega, by omega, by omega, by omega, h.2.2.2⟩

set_option maxHeartbeats 1000000 in
theorem goesInto_at (w : World) (n m : Int) (hn : n ≤ 9223372036854775807) : Calls Try.prog 70 #[.int .i64 n, .int .i64 m] w fun e w' => e = .returned (.bool (fitsN n m)) ∧ w = w' := by
  have HW := hide (isWidth_at w m)
  by_cases h1 : 1 ≤ m ∧ m ≤ 8
  · rw [decide_eq_true h1] at HW
    by_cases h0 : n < 0
    · have h0' : ¬ n ≥ 0 := by omega
      go_enter Try.func70, Try.ntmps70
      go_wp2_with fail
      refine HW.out.mono ?_
      rintro e w1 ⟨rfl, rfl⟩
      go_wp2
      go_ret
      exact ⟨by rw [fits_neg h0]; rfl, rfl⟩
    · obtain ⟨a, rfl⟩ : ∃ a : Nat, n = a := ⟨n.toNat, by omega⟩
      obtain ⟨b, rfl⟩ : ∃ b : Nat, m = b := ⟨m.toNat, by omega⟩
      have HF := hide (fits_yes (n := a) (w := b) (by omega) (by omega))
      have h8 : IntKind.i64.wrap (8 * (b : Int)) = ((8 * b : Nat) : Int) := by rw [IntKind.wrap_i64]; omega
      have hb0 : ¬ ((8 * b : Nat) : Int) < 0 := by omega
      clear h0
      go_enter Try.func70, Try.ntmps70
      go_wp2_with fail
      refine HW.out.mono ?_
      rintro e w1 ⟨rfl, rfl⟩
      go_wp2
      go_ret
      have e : (a : Int) / 2 ^ (8 * b) = ((a / 2 ^ (8 * b) : Nat) : Int) := by push_cast; rfl
      refine ⟨?_, rfl⟩
      rw [HF.out]
      simp only [e]
      generalize a / 2 ^ (8 * b) = q
      show Ending.returned (.bool ((q : Int) == 0)) = _
      congr 2
      rw [Bool.eq_iff_iff]
      simp
  · rw [decide_eq_false h1] at HW
    go_enter Try.func70, Try.ntmps70
    go_wp2_with fail
    refine HW.out.mono ?_
    rintro e w1 ⟨rfl, rfl⟩
    go_wp2
    go_ret
    exact ⟨by rw [fits_no h1]; rfl, rfl⟩

theorem miss_low {l : Nat} {n : Int} (h : n < 1) : missN l n = 0 := by simp [missN, h]
theorem miss_nat {l n : Nat} (h : 1 ≤ n) : missN l n = if l % n = 0 then 0 else n - l % n := by
  have h1 : ¬ ((n : Int) < 1) := by omega
  simp only [missN, h1, if_false, Int.toNat_natCast]

set_option maxHeartbeats 1000000 in
theorem missing_at (w : World) (l : Nat) (n : Int) (hl : l ≤ 9223372036854775807) (hn : n ≤ 9223372036854775807) : Calls Try.prog 85 #[.int .i64 l, .int .i64 n] w fun e w' => e = .returned (.int .i64 (missN l n)) ∧ w = w' := by
  by_cases h1 : n < 1
  · have HM := hide (miss_low (l := l) h1)
    go_enter Try.func85, Try.ntmps85
    go_wp2
    go_ret
    exact ⟨by rw [HM.out]; rfl, rfl⟩
  · obtain ⟨m, rfl⟩ : ∃ m : Nat, n = m := ⟨n.toNat, by omega⟩
    have HM := hide (miss_nat (l := l) (n := m) (by omega))
    obtain ⟨r, hr⟩ : ∃ r, l % m = r := ⟨_, rfl⟩
    have hrl : r < m := by rw [← hr]; exact Nat.mod_lt _ (by omega)
    rw [hr] at HM
    have k2 : ((l : Int)) % (m : Int) = (r : Int) := by rw [← hr]; push_cast; rfl
    have k3 : ((l : Int)).tmod (m : Int) = (r : Int) := by rw [Int.tmod_eq_emod_of_nonneg (by omega)]; exact k2
    have k4 : IntKind.i64.wrap ((m : Int) - (r : Int)) = ((m - r : Nat) : Int) := by rw [IntKind.wrap_i64]; omega
    have k5 : IntKind.i64.wrap (r : Int) = (r : Int) := by rw [IntKind.wrap_i64]; omega
    have k6 : ((m : Int) == 0) = false := by simp; omega
    have k7 : ¬ (m : Int) = 0 := by omega
    clear hr
    by_cases h0 : r = 0
    · subst h0
      go_enter Try.func85, Try.ntmps85
      go_wp2
      go_ret
      exact ⟨by rw [HM.out]; rfl, rfl⟩
    · have h0' : ¬ ((r : Int) = 0) := by omega
      go_enter Try.func85, Try.ntmps85
      go_wp2
      go_ret
      exact ⟨by rw [HM.out, if_neg h0]; rfl, rfl⟩

section
variable {P : Program} {ops : Array Oper} {Q : Exit → Act → World → Prop} {a : Act} {w : World} {rest : List Oper} {dst : Option Tmp} {ty : TypeId} {pos : String} {aft : Array Edge} {x y : Operand}
theorem stop_append2 (t u : TypeId) (h : Hid (wpList P ops Q (⟨dst, .call { callee := .builtin .append, args := #[x, y], argTypes := #[t, u] }, ty, pos, aft, none⟩ :: rest) a w)) : wpList P ops Q (⟨dst, .call { callee := .builtin .append, args := #[x, y], argTypes := #[t, u] }, ty, pos, aft, none⟩ :: rest) a w := h.out
end
theorem r_slice3 {ρ : Operand → Value} {w : World} {dst : Option Tmp} {ty : TypeId} {pos : String} {aft : Array Edge} {gd : Option (Nat × Bool)} {x y z : Operand} {base : Nat} {v : Value} {A : List Nat} (hx : ρ x = v) (ho : Own w base v A) (hy : ρ y = .int .i64 A.length) (hz : ρ z = .int .i64 A.length) :
    ∃ v', (execOp ρ ⟨dst, .slice 22 x none (some y) (some z), ty, pos, aft, gd⟩).run Try.prog w = .ok (.value v') w ∧ Src w v' A := by
  obtain ⟨i5, hi5, hz5, hs5, hb5⟩ := info_parts Try.info5
  have hs := ho.src
  rcases ho.1.2 with ⟨rfl, h0⟩ | ⟨g, cap, cur, rfl, hb, hg, hnc, hcm, hcs, htake⟩
  · obtain rfl : A = [] := List.eq_nil_of_length_eq_zero h0
    refine ⟨.slice none 0 0, ?_, Src.nil w⟩
    simp at hy hz
    simp [execOp, Instr.sliceAt, run_underlying Try.underlying22, Instr.slice, hx, hy, hz, Instr.sliceBounds, Instr.sliceBound, asIntOf, sizeOf, typeInfo, hi5]
  · refine ⟨.slice (some ⟨g, 0, none⟩) A.length A.length, ?_, ?_⟩
    · have h2 : (0 : Int) ≤ (A.length : Int) ∧ (A.length : Int) ≤ (cap : Int) := by omega
      simp [execOp, Instr.sliceAt, run_underlying Try.underlying22, Instr.slice, hx, hy, hz, Instr.sliceBounds, Instr.sliceBound, asIntOf, sizeOf, typeInfo, hi5, hnc, addr_add]
    · obtain ⟨bo, cap', e, _, h2, h3, _⟩ := hs
      cases e
      exact ⟨_, _, rfl, Nat.le_refl _, h2, h3, fun h => by cases h⟩
theorem aw_slice3 {ops : Array Oper} {Q : Exit → Act → World → Prop} {a : Act} {rest : List Oper} {w : World} {dst : Option Tmp} {ty : TypeId} {pos : String} {aft : Array Edge} {x y z : Operand} {base : Nat} {v : Value} {A : List Nat} (hx : a.eval x = v) (ho : Own w base v A) (hy : a.eval y = .int .i64 A.length) (hz : a.eval z = .int .i64 A.length)
    (h : ∀ v', Src w v' A → wpList Try.prog ops Q rest (a.put dst v') w) : wpList Try.prog ops Q (⟨dst, .slice 22 x none (some y) (some z), ty, pos, aft, none⟩ :: rest) a w := by
  obtain ⟨v', hr, hs⟩ := r_slice3 (dst := dst) (ty := ty) (pos := pos) (aft := aft) (gd := none) hx ho hy hz
  exact wpList_run rfl hr (h v' hs)

set_option maxHeartbeats 1000000 in
theorem tell_at (w : World) (v : Value) (B : List Nat) (hs : Src w v B) (k : Nat) (hl : B.length + k ≤ 100000000) :
    Calls Try.prog 71 #[v, .int .i64 k] w fun e w' => ∃ v', e = .returned v' ∧ Src w' v' (B ++ List.replicate k 0) ∧ Kept (fun _ => False) w w' := by
  have HS := hide hs
  clear hs
  go_enter Try.func71, Try.ntmps71
  go_wp2_with (with_reducible refine stop_append2 22 22 ?_)
  refine hide ?_
  obtain ⟨v1, w1, hr1, ho1, hk1, _⟩ := append_src (Own.nil w w.heap.size) HS.out (by simp; omega) (Nat.le_refl _) 22
  have hk1' : Kept (fun _ => False) w w1 := hk1.mono (fun i hi h => by simp [Value.ownBlock] at h)
  rw [List.nil_append] at ho1
  refine wpList_run rfl (r_append25 rfl rfl hr1) ?_
  have HO1 := hide ho1
  clear ho1 hr1 hk1
  go_wp2_with (with_reducible refine stop_append2 22 3 ?_)
  refine hide ?_
  obtain ⟨v2, w2, hr2, ho2, hk2, _⟩ := append_zero HO1.out k hl hk1'.size 22
  have hk2' : Kept (fun _ => False) w w2 := hk1'.trans hk2 (fun i hi h => by have := (HO1.out.1.lt i h).1; omega)
  refine wpList_run rfl (r_appendZ rfl rfl hr2) ?_
  have hv2 : ∃ bo cap, v2 = .slice bo (B ++ List.replicate k 0).length cap := by
    obtain ⟨bo, cap, e, _⟩ := ho2.src
    exact ⟨bo, cap, e⟩
  obtain ⟨bo, cap, rfl⟩ := hv2
  obtain ⟨C, hC⟩ : ∃ C, B ++ List.replicate k 0 = C := ⟨_, rfl⟩
  rw [hC] at ho2 ⊢
  have HC := hide hC
  have HO2 := hide ho2
  clear ho2 hr2 hk2 hC
  go_wp2_with (with_reducible refine stop_slice 22 ?_)
  refine hide ?_
  refine aw_slice3 rfl HO2.out rfl rfl ?_
  intro v3 hs3
  have HS3 := hide hs3
  clear hs3
  go_wp2
  go_ret
  exact ⟨v3, rfl, by rw [HC.out]; exact HS3.out, hk2'⟩

end Go.Proofs.Ytbbhchmdggfncaa


/-
  pack.first: the number that bytes begin with.
-/
namespace Go.Proofs.Ytbbhchmdggfncaa
open Go.RowKit Go.Shelf
set_option linter.unusedSimpArgs false
set_option linter.unusedVariables false
set_option maxRecDepth 100000

section
variable {ρ : Operand → Value} {w : World} {dst : Option Tmp} {ty : TypeId} {pos : String} {aft : Array Edge} {gd : Option (Nat × Bool)} {x y z : Operand}
theorem r_hi25 {a : Addr} {len cap : Nat} (h : Nat) {k : IntKind} (hx : ρ x = .slice (some a) len cap) (hy : ρ y = .int k h) (hl : h ≤ cap) :
    (execOp ρ ⟨dst, .slice 22 x none (some y) none, ty, pos, aft, gd⟩).run Try.prog w = .ok (.value (.slice (some a) h cap)) w := by
  obtain ⟨i5, hi5, hz5, hs5, hb5⟩ := info_parts Try.info5
  have h2 : (0 : Int) ≤ (h : Int) ∧ (h : Int) ≤ (cap : Int) := by omega
  by_cases h1 : cap = 0
  · subst h1
    obtain rfl : h = 0 := by omega
    simp [execOp, Instr.sliceAt, run_underlying Try.underlying22, Instr.slice, hx, hy, Instr.sliceBounds, Instr.sliceBound, asIntOf, sizeOf, typeInfo, hi5]
  · simp [execOp, Instr.sliceAt, run_underlying Try.underlying22, Instr.slice, hx, hy, Instr.sliceBounds, Instr.sliceBound, asIntOf, h2, hl, sizeOf, typeInfo, hi5, h1, Addr.add]
end

/-- What 'first' answers. -/
def firstV (o : Option Nat) : Value := match o with | none => .tuple #[.int .i64 0, .bool false] | some n => .tuple #[.int .i64 n, .bool true]
theorem firstN_no {B : List Nat} {m : Int} (h : ¬ (1 ≤ m ∧ m ≤ 8)) : firstN B m = none := by unfold firstN; rw [if_neg]; intro h2; exact h ⟨h2.1, h2.2.1⟩
theorem firstN_few {B : List Nat} {m : Int} (h : (B.length : Int) < m) : firstN B m = none := by unfold firstN; rw [if_neg]; intro h2; omega
theorem firstN_is {B : List Nat} {m : Nat} (h1 : 1 ≤ m) (h8 : m ≤ 8) (hl : m ≤ B.length) : firstN B m = if valN (B.take m) < 9223372036854775808 then some (valN (B.take m)) else none := by
  unfold firstN
  simp only [Int.toNat_natCast]
  by_cases h : valN (B.take m) < 9223372036854775808
  · rw [if_pos ⟨by omega, by omega, by omega, h⟩, if_pos h]
  · rw [if_neg (fun h2 => h h2.2.2.2), if_neg h]

set_option maxHeartbeats 2000000 in
theorem first_at (w : World) (v : Value) (B : List Nat) (hs : Src w v B) (hl : B.length ≤ 9223372036854775807) (m : Int) :
    Calls Try.prog 90 #[v, .int .i64 m] w fun e w' => e = .returned (firstV (firstN B m)) ∧ w = w' := by
  obtain ⟨bo, cap, rfl, hcap, hB, hsrc, hnil⟩ := hs
  have HW := hide (isWidth_at w m)
  by_cases h1 : 1 ≤ m ∧ m ≤ 8
  · rw [decide_eq_true h1] at HW
    by_cases hfew : (B.length : Int) < m
    · have HN := hide (firstN_few hfew)
      have hfew' : m > (B.length : Int) := hfew
      clear hsrc hB hnil
      go_enter Try.func90, Try.ntmps90
      go_wp2_with fail
      refine HW.out.mono ?_
      rintro e w1 ⟨rfl, rfl⟩
      go_wp2
      go_ret2
      exact ⟨by rw [HN.out]; rfl, rfl⟩
    · obtain ⟨q, rfl⟩ : ∃ q : Nat, m = q := ⟨m.toNat, by omega⟩
      have hq1 : 1 ≤ q := by omega
      have hq8 : q ≤ 8 := by omega
      have hql : q ≤ B.length := by omega
      have HN := hide (firstN_is hq1 hq8 hql)
      obtain ⟨sb, so, rfl, hc⟩ := hsrc (by omega)
      have HC := hide hc
      have HB := hide hB
      clear hc hB hsrc hnil h1
      go_enter Try.func90, Try.ntmps90
      go_wp2_with fail
      refine HW.out.mono ?_
      rintro e w1 ⟨rfl, rfl⟩
      go_wp2_with (with_reducible refine stop_slice 22 ?_)
      refine hide ?_
      refine wpList_run rfl (r_hi25 (len := B.length) (cap := cap) q (k := .i64) rfl rfl (by omega)) ?_
      go_wp2
      go_loopw [6, 22] (fun v i wr => ∃ k : Nat, k ≤ q ∧ v = .int .u64 (valN (B.take k) : Nat) ∧ i = .int .i64 k ∧ w = wr) (fun _ i _ => q - (intOf i).toNat)
      case atStart => exact ⟨0, by omega, rfl, rfl, rfl⟩
      case round =>
        obtain ⟨k, hk, rfl, rfl, rfl⟩ := hrel
        by_cases hlt : k < q
        · have hkB : k < B.length := by omega
          have c0 := HC.out k _ (BV_get B k hkB)
          have hx := HB.out _ (List.getElem_mem hkB)
          have HT : Hid (valN (B.take (k + 1)) = valN (B.take k) * 256 + B[k]) := hide (by rw [← List.take_append_getElem hkB, valN_snoc])
          have hvl : valN (B.take k) < 72057594037927936 := by
            have h1 := valN_lt (B.take k) (fun y hy => HB.out y (List.mem_of_mem_take hy))
            have h2 : (B.take k).length ≤ 7 := by simp; omega
            have h3 := pow256_le7 h2
            omega
          generalize valN (B.take k) = r at *
          generalize B[k] = x at *
          have hwx : IntKind.u64.wrap (x : Int) = (x : Int) := by rw [IntKind.wrap_u64]; omega
          go_wp2_with (with_reducible refine stop_bin .shl ?_)
          refine hide ?_
          refine wpList_run rfl (r_shl64 (p := r) hvl rfl rfl) ?_
          go_wp2_with (with_reducible refine stop_bin .or ?_)
          refine hide ?_
          refine wpList_run rfl (r_or64 (p := r) (q := x) hvl hx rfl rfl) ?_
          rw [← HT.out]
          go_wp2
          go_roundw
          case rel => exact ⟨k + 1, by omega, rfl, by go_num, trivial⟩
          case measure => simp [intOf]; omega
        · obtain rfl : k = q := by omega
          have hvl : valN (B.take k) < 18446744073709551616 := by
            have h1 := valN_lt (B.take k) (fun y hy => HB.out y (List.mem_of_mem_take hy))
            have h2 : (B.take k).length ≤ 8 := by simp; omega
            have h3 := pow256_le h2
            omega
          generalize valN (B.take k) = r at *
          by_cases hbig : r < 9223372036854775808
          · have hwr : IntKind.i64.wrap (r : Int) = (r : Int) := by rw [IntKind.wrap_i64]; omega
            have HN2 := hide HN.out
            rw [if_pos hbig] at HN2
            clear HN
            go_wp2
            go_ret2
            exact ⟨by rw [HN2.out]; rfl, rfl⟩
          · have HN2 := hide HN.out
            rw [if_neg hbig] at HN2
            have hbig' : (9223372036854775807 : Int) < (r : Int) := by omega
            clear HN
            go_wp2
            go_ret2
            exact ⟨by rw [HN2.out]; rfl, rfl⟩
  · rw [decide_eq_false h1] at HW
    have HN := hide (firstN_no (B := B) h1)
    clear hsrc hB hnil
    go_enter Try.func90, Try.ntmps90
    go_wp2_with fail
    refine HW.out.mono ?_
    rintro e w1 ⟨rfl, rfl⟩
    go_wp2
    go_ret2
    exact ⟨by rw [HN.out]; rfl, rfl⟩

end Go.Proofs.Ytbbhchmdggfncaa


/-
  A region that draws its order, under a condition S on the world of one's own choice, which need not hold any more behind one operation m for which all others wait. Nothing of a program's dump is used here.
-/
namespace Go.Proofs.Ytbbhchmdggfncaa
open Go.RowKit
set_option linter.unusedSimpArgs false
set_option linter.unusedVariables false
set_option maxRecDepth 100000

section
variable {P : Program} {ops : Array Oper} {Q : Exit → Act → World → Prop} {md : Region.Mode} {S S' : World → Prop} {m : Nat}

def wpAnyM (P : Program) (md : Region.Mode) (ops : Array Oper) (Q : Exit → Act → World → Prop) (S : World → Prop) (m : Nat) : Nat → Array Bool → Act → World → Prop
  | 0, listed, a, w => Region.ready md ops listed = [] ∧ Q .normal a w
  | fuel + 1, listed, a, w =>
    (Region.ready md ops listed = [] → Q .normal a w) ∧
    ∀ i ∈ Region.ready md ops listed, wpOp P ops Q i (fun a' w' => (i ≠ m → S w') ∧ wpAnyM P md ops Q S m fuel (listed.setIfInBounds i true) a' w') a w

theorem wpAny_of_M : ∀ (fuel : Nat) (listed : Array Bool) (a : Act) (w : World), wpAnyM P md ops Q S m fuel listed a w → wpAny P md ops Q fuel listed a w
  | 0, _, _, _, h => h
  | fuel + 1, _, _, _, h => ⟨h.1, fun i hi => wpOp_mono (fun a' w' h' => wpAny_of_M fuel _ a' w' h'.2) (h.2 i hi)⟩

theorem wpAnyM_mono (hS : ∀ w, S' w → S w) : ∀ (fuel : Nat) (listed : Array Bool) (a : Act) (w : World), wpAnyM P md ops Q S' m fuel listed a w → wpAnyM P md ops Q S m fuel listed a w
  | 0, _, _, _, h => h
  | fuel + 1, _, _, _, h => ⟨h.1, fun i hi => wpOp_mono (fun a' w' h' => ⟨fun hm => hS _ (h'.1 hm), wpAnyM_mono hS fuel _ a' w' h'.2⟩) (h.2 i hi)⟩

/-- m waits for i, or is none of them. -/
def waitsM (md : Region.Mode) (ops : Array Oper) (m i : Nat) : Bool := decide (i ≠ m) && (decide (ops.size ≤ m) || Region.waitsFor md ops m i)

/-- Of two that may come up now, neither waits for the other. -/
theorem no_wait {listed : Array Bool} {i j : Nat} {oj : Oper} (hi : i ∈ Region.ready md ops listed) (hj : j ∈ Region.ready md ops listed) (ho : ops[j]? = some oj) : ∀ e ∈ oj.after, Region.binds md e = true → e.on ≠ i := by
  rintro e he hb rfl
  obtain ⟨_, o, ho', hall⟩ := mem_ready.1 hj
  rw [ho] at ho'
  cases ho'
  have := hall e he hb
  rw [getD_both (mem_ready.1 hi).1] at this
  cases this

/-- All that have not come up yet, and do not wait for i, are apart from it. -/
def apartM (md : Region.Mode) (ops : Array Oper) (i : Nat) (oi : Oper) (listed : Array Bool) : Prop :=
  ∀ j oj, ops[j]? = some oj → j ≠ i → listed.getD j true = false → (∀ e ∈ oj.after, Region.binds md e = true → e.on ≠ i) → oi.apart ops oj = true
theorem apartM.set {i j : Nat} {oi : Oper} {listed : Array Bool} (h : apartM md ops i oi listed) (hj : listed.getD j true = false) : apartM md ops i oi (listed.setIfInBounds j true) := by
  intro k ok hk hki hun hno
  refine h k ok hk hki ?_ hno
  by_cases e : j = k
  · exact e ▸ hj
  · rwa [getD_set_ne true e] at hun

/-- One that may come up now, that yields its value wherever S holds, and for which m waits, may be taken first. -/
theorem wpAnyM_first {i : Nat} {oi : Oper} {v : Value} (hi : ops[i]? = some oi) (hm : waitsM md ops m i = true) (hsel : ∀ (j : Nat) (o : Oper) cs b, ops[j]? = some o → o.op ≠ .select cs b)
    (hQ : ∀ c a w, Q (.panic c) (a.put oi.dst v) w → Q (.panic c) a w) :
    ∀ (fuel : Nat) (listed : Array Bool) (a : Act) (w : World), apartM md ops i oi listed → i ∈ Region.ready md ops listed → YieldsIf P ops S oi v a → S w →
      wpAnyM P md ops Q S m fuel (listed.setIfInBounds i true) (a.put oi.dst v) w → wpAnyM P md ops Q S m (fuel + 1) listed a w
  | fuel, listed, a, w, hfree, hr, hy, hS, H => by
    refine ⟨fun h0 => absurd (h0 ▸ hr) (by simp), fun j hj => ?_⟩
    by_cases hji : j = i
    · subst hji
      exact hy.wpOp hi hS ⟨fun _ => hS, H⟩
    have hj2 := ready_mono hj hji
    match fuel, H with
    | 0, H => exact absurd (H.1 ▸ hj2) (by simp)
    | fuel + 1, H =>
      obtain ⟨hjun, oj, hoj, _⟩ := mem_ready.1 hj
      have hno := no_wait hr hj hoj
      have hjm : j ≠ m := by
        rintro rfl
        simp only [waitsM, Bool.and_eq_true, Bool.or_eq_true, decide_eq_true_eq] at hm
        rcases hm.2 with h | h
        · exact absurd (Array.getElem?_eq_some_iff.1 hoj).1 (by omega)
        · obtain ⟨o, ho, e, he, hb, hon⟩ := Region.waitsFor_spec h
          rw [hoj] at ho
          cases ho
          exact hno e he hb hon
      refine wpOp_mono ?_ (wpOp_putIf hoj (hfree j oj hoj hji hjun hno) (fun cs b => hsel i oi cs b hi) (fun cs b => hsel j oj cs b hoj) hQ hy (H.2 j hj2))
      rintro a' w' ⟨hy', hS', h'⟩
      rw [Array.setIfInBounds_comm _ _ (Ne.symm hji)] at h'
      exact ⟨hS', wpAnyM_first hi hm hsel hQ fuel _ a' w' (hfree.set hjun) (ready_mono hr (Ne.symm hji)) hy' (hS' hjm) h'⟩

variable {fuel : Nat} {listed : Array Bool} {a : Act} {w w' : World}

/-- From here on a stronger condition. -/
theorem raiseM (hS : ∀ U, S' U → S U) (h : wpAnyM P md ops Q S' m fuel listed a w) : wpAnyM P md ops Q S m fuel listed a w := wpAnyM_mono hS _ _ _ _ h

/-- A read, taken first. -/
theorem tkS (i t : Nat) {oi : Oper} {v : Value} (hS : S w) (hi : ops[i]? = some oi) (hd : oi.dst = some t) (hm : waitsM md ops m i = true) (hs : Region.noSelect ops = true) (hf : Region.free md ops listed i = true) (hr : (Region.ready md ops listed).contains i = true)
    (hw : Region.wanted oi (yielded ops a.tmps) = true) (hQ : ∀ c a w, Q (.panic c) (a.put oi.dst v) w → Q (.panic c) a w) (hrun : ∀ U, S U → (execOp a.eval oi).run P U = .ok (.value v) U)
    (h : wpAnyM P md ops Q S m fuel (listed.setIfInBounds i true) (a.put (some t) v) w) : wpAnyM P md ops Q S m (fuel + 1) listed a w := by
  rw [← hd] at h
  exact wpAnyM_first hi hm (Region.noSelect_spec hs) hQ fuel listed a w (Region.free_spec hi hf) (by simpa using hr) (.inl ⟨hw, hrun⟩) hS h
/-- One that is not wanted. -/
theorem tkNS (i t : Nat) {oi : Oper} (hS : S w) (hi : ops[i]? = some oi) (hd : oi.dst = some t) (hm : waitsM md ops m i = true) (hs : Region.noSelect ops = true) (hf : Region.free md ops listed i = true) (hr : (Region.ready md ops listed).contains i = true)
    (hw : Region.wanted oi (yielded ops a.tmps) = false) (hQ : ∀ c a w, Q (.panic c) (a.put oi.dst undef) w → Q (.panic c) a w)
    (h : wpAnyM P md ops Q S m fuel (listed.setIfInBounds i true) (a.put (some t) undef) w) : wpAnyM P md ops Q S m (fuel + 1) listed a w := by
  rw [← hd] at h
  exact wpAnyM_first hi hm (Region.noSelect_spec hs) hQ fuel listed a w (Region.free_spec hi hf) (by simpa using hr) (.inr ⟨hw, rfl⟩) hS h

theorem stepVS (i t : Nat) {oi : Oper} {v : Value} (hi : ops[i]? = some oi) (hd : oi.dst = some t) (hw : Region.wanted oi (yielded ops a.tmps) = true) (hrun : (execOp a.eval oi).run P w = .ok (.value v) w') (hS : i ≠ m → S w')
    (h : wpAnyM P md ops Q S m fuel (listed.setIfInBounds i true) (a.put (some t) v) w') :
    wpOp P ops Q i (fun a' w'' => (i ≠ m → S w'') ∧ wpAnyM P md ops Q S m fuel (listed.setIfInBounds i true) a' w'') a w := by
  unfold wpOp
  simp only [hi, hw, if_true]
  refine .inl ?_
  unfold Oper.wp
  rw [hrun]
  rw [← hd] at h
  exact ⟨hS, h⟩
theorem stepCS (i t : Nat) {oi : Oper} {f : FuncId} {args : Array Value} {R : Ending → World → Prop} (hi : ops[i]? = some oi) (hd : oi.dst = some t) (hw : Region.wanted oi (yielded ops a.tmps) = true) (hrun : (execOp a.eval oi).run P w = .ok (.enter f args) w)
    (hc : Calls P f args w R) (h : ∀ e w', R e w' → ∃ v, e = .returned v ∧ S w' ∧ wpAnyM P md ops Q S m fuel (listed.setIfInBounds i true) (a.put (some t) v) w') :
    wpOp P ops Q i (fun a' w'' => (i ≠ m → S w'') ∧ wpAnyM P md ops Q S m fuel (listed.setIfInBounds i true) a' w'') a w := by
  unfold wpOp
  simp only [hi, hw, if_true]
  refine .inl ?_
  unfold Oper.wp
  rw [hrun]
  rw [← hd] at h
  exact hc.mono fun e w' hR => by
    obtain ⟨v, rfl, hk, h2⟩ := h e w' hR
    exact ⟨fun _ => hk, h2⟩
theorem oneS (i : Nat) (hr : Region.ready md ops listed = [i]) (h : wpOp P ops Q i (fun a' w'' => (i ≠ m → S w'') ∧ wpAnyM P md ops Q S m fuel (listed.setIfInBounds i true) a' w'') a w) : wpAnyM P md ops Q S m (fuel + 1) listed a w := by
  refine ⟨fun h0 => absurd (hr ▸ h0) (by simp), hr ▸ ?_⟩
  intro j hj
  simp at hj
  subst hj
  exact h
theorem twoS (i j : Nat) (hr : Region.ready md ops listed = [i, j]) (h : wpOp P ops Q i (fun a' w'' => (i ≠ m → S w'') ∧ wpAnyM P md ops Q S m fuel (listed.setIfInBounds i true) a' w'') a w)
    (h2 : wpOp P ops Q j (fun a' w'' => (j ≠ m → S w'') ∧ wpAnyM P md ops Q S m fuel (listed.setIfInBounds j true) a' w'') a w) : wpAnyM P md ops Q S m (fuel + 1) listed a w := by
  refine ⟨fun h0 => absurd (hr ▸ h0) (by simp), hr ▸ ?_⟩
  intro k hk
  simp at hk
  rcases hk with rfl | rfl
  · exact h
  · exact h2
/-- The only one that may come up is a call. -/
theorem oneCS (i t : Nat) {oi : Oper} {f : FuncId} {args : Array Value} {R : Ending → World → Prop} (hr : Region.ready md ops listed = [i]) (hi : ops[i]? = some oi) (hd : oi.dst = some t) (hw : Region.wanted oi (yielded ops a.tmps) = true) (hrun : (execOp a.eval oi).run P w = .ok (.enter f args) w)
    (hc : Calls P f args w R) (h : ∀ e w', R e w' → ∃ v, e = .returned v ∧ S w' ∧ wpAnyM P md ops Q S m fuel (listed.setIfInBounds i true) (a.put (some t) v) w') :
    wpAnyM P md ops Q S m (fuel + 1) listed a w := oneS i hr (stepCS i t hi hd hw hrun hc h)
/-- The only one that may come up makes memory. -/
theorem oneVS (i t : Nat) {oi : Oper} {v : Value} (hr : Region.ready md ops listed = [i]) (hi : ops[i]? = some oi) (hd : oi.dst = some t) (hw : Region.wanted oi (yielded ops a.tmps) = true) (hrun : (execOp a.eval oi).run P w = .ok (.value v) w') (hS : S w')
    (h : wpAnyM P md ops Q S m fuel (listed.setIfInBounds i true) (a.put (some t) v) w') : wpAnyM P md ops Q S m (fuel + 1) listed a w := oneS i hr (stepVS i t hi hd hw hrun (fun _ => hS) h)
/-- The last one, which leaves nothing. -/
theorem lastS {oi : Oper} (hr : Region.ready md ops listed = [m]) (hi : ops[m]? = some oi) (hw : Region.wanted oi (yielded ops a.tmps) = true) (hrun : (execOp a.eval oi).run P w = .ok .skip w')
    (hr2 : Region.ready md ops (listed.setIfInBounds m true) = []) (h : Q .normal (a.put oi.dst undef) w') : wpAnyM P md ops Q S m (fuel + 1) listed a w := by
  refine oneS m hr ?_
  unfold wpOp
  simp only [hi, hw, if_true]
  refine .inl ?_
  unfold Oper.wp
  rw [hrun]
  refine ⟨fun h => absurd rfl h, ?_⟩
  cases fuel with
  | zero => exact ⟨hr2, h⟩
  | succ n => exact ⟨fun _ => h, by rw [hr2]; simp⟩
theorem doneS (hr : Region.ready md ops listed = []) (h : Q .normal a w) : wpAnyM P md ops Q S m fuel listed a w := by
  cases fuel with
  | zero => exact ⟨hr, h⟩
  | succ n => exact ⟨fun _ => h, by rw [hr]; simp⟩
theorem region_S {id : Nat} (m : Nat) (S : World → Prop) (hm : P.follows .mixedOrders = true)
    (h : ∀ w', Kept (fun _ => False) w w' → w'.heap = w.heap → wpAnyM P .any ops Q S m ops.size (Array.replicate ops.size false) a w') : (Code.region id ops true).wp P Q a w :=
  wp_region_any hm (wpAny_of_M _ _ _ _ (h _ ⟨rfl, rfl, rfl, Nat.le_refl _, fun _ _ _ => rfl⟩ rfl))
/-- The condition may be chosen behind the draw. -/
theorem region_S0 {id : Nat} (m : Nat) (hm : P.follows .mixedOrders = true)
    (h : ∀ w', Kept (fun _ => False) w w' → w'.heap = w.heap → ∃ S : World → Prop, wpAnyM P .any ops Q S m ops.size (Array.replicate ops.size false) a w') : (Code.region id ops true).wp P Q a w := by
  obtain ⟨S, h⟩ := h { w with drawn := w.drawn + 1 } ⟨rfl, rfl, rfl, Nat.le_refl _, fun _ _ _ => rfl⟩ rfl
  exact wp_region_any hm (wpAny_of_M _ _ _ _ h)
end

end Go.Proofs.Ytbbhchmdggfncaa


/-
  A pen: Number, Text, Bytes, Padded.
-/
namespace Go.Proofs.Ytbbhchmdggfncaa
open Go.RowKit Go.Shelf
set_option linter.unusedSimpArgs false
set_option linter.unusedVariables false
set_option maxRecDepth 100000

section
variable {ρ : Operand → Value} {w : World} {dst : Option Tmp} {ty : TypeId} {pos : String} {aft : Array Edge} {gd : Option (Nat × Bool)} {x y z : Operand}
theorem r_nilChk {a : Addr} (hx : ρ x = .pointer (some a)) : (execOp ρ ⟨dst, .nilCheck x, ty, pos, aft, gd⟩).run Try.prog w = .ok (.value (.pointer (some a))) w := by
  go_simp
theorem r_fld27 {b : Nat} (hx : ρ x = .pointer (some ⟨b, 0, none⟩)) : (execOp ρ ⟨dst, .fieldAddr 100 x 0, ty, pos, aft, gd⟩).run Try.prog w = .ok (.value (.pointer (some ⟨b, 0, none⟩))) w := by
  go_simp
theorem r_ld25 {b o : Nat} {v : Value} (hx : ρ x = .pointer (some ⟨b, o, none⟩)) (hc : w.cell? ⟨b, o, none⟩ = some v) : (execOp ρ ⟨dst, .load 22 x, ty, pos, aft, gd⟩).run Try.prog w = .ok (.value v) w := by
  go_simp
theorem r_st25 {b : Nat} {bo : Option Addr} {n c : Nat} {u : Value} {L : List Value} {e : TypeId} (hx : ρ x = .pointer (some ⟨b, 0, none⟩)) (hy : ρ y = .slice bo n c) (hb : Blk w b (u :: L) e) : (execOp ρ ⟨dst, .store 22 x y, ty, pos, aft, gd⟩).run Try.prog w = .ok .skip (w.setCell ⟨b, 0, none⟩ (.slice bo n c)) := by
  have c0 := hb.cell 0
  have f0 := hb.frozen 0
  simp at c0
  go_simp
theorem r_mul8 {j : Nat} (hj : j ≤ 8) (hx : ρ x = .int .i64 8) (hy : ρ y = .int .i64 j) : (execOp ρ ⟨dst, .binOp .mul 3 x y 3, ty, pos, aft, gd⟩).run Try.prog w = .ok (.value (.int .i64 ((8 * j : Nat) : Int))) w := by
  have h : IntKind.i64.wrap (8 * (j : Int)) = ((8 * j : Nat) : Int) := by rw [IntKind.wrap_i64]; omega
  go_simp
theorem r_conv35 {p : Nat} (hx : ρ x = .int .i64 p) : (execOp ρ ⟨dst, .convert 3 5 x, ty, pos, aft, gd⟩).run Try.prog w = .ok (.value (.int .u8 ((p % 256 : Nat) : Int))) w := by
  have h : IntKind.u8.wrap (p : Int) = ((p % 256 : Nat) : Int) := by rw [IntKind.wrap_u8]; omega
  go_simp
end

/-- A pen at p, whose slice is v, with what it has written. -/
def PenAt (w : World) (p : Nat) (v : Value) (A : List Nat) : Prop := Blk w p [v] 100 ∧ Own w 0 v A
theorem PenAt.kept {w w' : World} {p : Nat} {v : Value} {A : List Nat} {S : Nat → Prop} (h : PenAt w p v A) (hk : Kept S w w') (hp : ¬ S p) (hv : ∀ k, v.ownBlock = some k → ¬ S k) : PenAt w' p v A := ⟨hk.blk h.1 hp, h.2.kept hk hv⟩
theorem PenAt.ne {w : World} {p q : Nat} {v : Value} {A L : List Nat} {M : List Value} {t : TypeId} (h : PenAt w p v A) (hb : Blk w q M t) (ht : t ≠ 5) : v.ownBlock ≠ some q := h.2.blk_ne hb ht
theorem PenAt.lt {w : World} {p : Nat} {v : Value} {A : List Nat} (h : PenAt w p v A) : ∀ x ∈ A, x < 256 := h.2.2
theorem PenAt.slice {w : World} {p : Nat} {v : Value} {A : List Nat} (h : PenAt w p v A) : ∃ bo c, v = .slice bo A.length c := by
  obtain ⟨bo, c, e, _⟩ := h.2.src
  exact ⟨bo, c, e⟩
/-- What a pen's call may change: its own block, and its slice's. -/
def penS (p : Nat) (v : Value) (k : Nat) : Prop := k = p ∨ v.ownBlock = some k
/-- Where the slice lies afterwards. -/
def moved (w : World) (v v' : Value) : Prop := ∀ k, v'.ownBlock = some k → v.ownBlock = some k ∨ w.heap.size ≤ k
theorem moved.refl (w : World) (v : Value) : moved w v v := fun k h => .inl h
theorem moved.trans {w w' : World} {v v' v'' : Value} (h : moved w v v') (h2 : moved w' v' v'') (hs : w.heap.size ≤ w'.heap.size) : moved w v v'' := fun k hk => by
  rcases h2 k hk with h3 | h3
  · exact h k h3
  · exact .inr (by omega)
theorem penS_trans {w w' w'' : World} {p : Nat} {v v' : Value} (h : Kept (penS p v) w w') (hm : moved w v v') (h2 : Kept (penS p v') w' w'') : Kept (penS p v) w w'' :=
  h.trans h2 (fun i hi hs => by
    rcases hs with rfl | hs
    · exact .inl rfl
    · rcases hm i hs with h3 | h3
      · exact .inr h3
      · omega)

/-- append a slice's bytes, and store what comes out. -/
theorem PenAt.stored {w w1 : World} {p : Nat} {v : Value} {A B : List Nat} {bo : Option Addr} {n c : Nat} (h : PenAt w p v A) (ho : Own w1 0 (.slice bo n c) (A ++ B)) (hk : Kept (fun k => v.ownBlock = some k) w w1) (hm : (Value.slice bo n c).ownBlock = v.ownBlock ∨ (Value.slice bo n c).ownBlock = some w.heap.size) :
    PenAt (w1.setCell ⟨p, 0, none⟩ (.slice bo n c)) p (.slice bo n c) (A ++ B) ∧ Kept (penS p v) w (w1.setCell ⟨p, 0, none⟩ (.slice bo n c)) ∧ moved w v (.slice bo n c) := by
  have hp1 : Blk w1 p [v] 100 := hk.blk h.1 (fun e => h.2.blk_ne h.1 (by decide) e)
  have hk2 := Kept.setCell (S := fun k => k = p) w1 ⟨p, 0, none⟩ (.slice bo n c) rfl
  refine ⟨⟨by simpa using hp1.setCell 0 (.slice bo n c), ho.kept hk2 (fun k hk e => ho.blk_ne hp1 (by decide) (by rw [hk, e]))⟩, ?_, ?_⟩
  · exact (hk.mono (fun i _ h => Or.inr h) : Kept (penS p v) w w1).trans hk2 (fun i _ e => .inl e)
  · intro k hk
    rcases hm with e | e
    · exact .inl (by rw [← e]; exact hk)
    · rw [e] at hk
      cases hk
      exact .inr (Nat.le_refl _)

theorem number_bad (w : World) (p : Nat) (n m : Int) (hn : n ≤ 9223372036854775807) (h : fitsN n m = false) : Calls Try.prog 57 #[.pointer (some ⟨p, 0, none⟩), .int .i64 n, .int .i64 m] w fun e w' => e = .returned (.bool false) ∧ w = w' := by
  have HG := hide (goesInto_at w n m hn)
  rw [h] at HG
  go_enter Try.func57, Try.ntmps57
  go_wp2_with fail
  refine HG.out.mono ?_
  rintro e w1 ⟨rfl, rfl⟩
  go_wp2
  go_ret
  exact ⟨rfl, rfl⟩

set_option maxRecDepth 100000 in
set_option maxHeartbeats 2000000 in
theorem number_ok (w : World) (p : Nat) (v : Value) (A : List Nat) (hp : PenAt w p v A) (hl : A.length ≤ 90000000) (n m : Nat) (hn : n ≤ 9223372036854775807) (hf : fitsN n m = true) :
    Calls Try.prog 57 #[.pointer (some ⟨p, 0, none⟩), .int .i64 n, .int .i64 m] w fun e w' => ∃ v', e = .returned (.bool true) ∧ PenAt w' p v' (A ++ numB n m) ∧ Kept (penS p v) w w' ∧ moved w v v' := by
  have HG := hide (goesInto_at w n m (by omega))
  rw [hf] at HG
  obtain ⟨a, b, e1, e2, h1, h8, hfit⟩ := fits_of hf
  obtain rfl : n = a := by omega
  obtain rfl : m = b := by omega
  have hw1 : IntKind.i64.wrap ((m : Int) - 1) = (m : Int) - 1 := by rw [IntKind.wrap_i64]; omega
  have HP := hide hp
  clear hf e1 e2 hp
  go_enter Try.func57, Try.ntmps57
  go_wp2_with fail
  refine HG.out.mono ?_
  rintro e w1 ⟨rfl, rfl⟩
  go_wp2
  go_loopw [7] (fun i wr => ∃ (j : Nat) (u : Value), j ≤ m ∧ i = .int .i64 ((j : Int) - 1) ∧ PenAt wr p u (A ++ numB (n / 256 ^ j) (m - j)) ∧ Kept (penS p v) w wr ∧ moved w v u) (fun i _ => ((intOf i) + 1).toNat)
  case atStart => exact ⟨m, v, Nat.le_refl _, rfl, by rw [Nat.sub_self]; simpa [numB] using HP.out, Kept.refl _ _, moved.refl _ _⟩
  case round =>
    obtain ⟨j, u, hj, rfl, hpen, hk, hm⟩ := hrel
    match j, hj with
    | 0, hj =>
      rw [show ((0 : Nat) : Int) - 1 = -1 by omega]
      have HPen := hide hpen
      clear hpen
      go_wp2
      go_ret
      exact ⟨u, rfl, by simpa using HPen.out, hk, hm⟩
    | i + 1, hj =>
      rw [show ((i + 1 : Nat) : Int) - 1 = (i : Int) by omega]
      have HPen := hide hpen
      have HNum : Hid (A ++ numB (n / 256 ^ i) (m - i) = A ++ numB (n / 256 ^ (i + 1)) (m - (i + 1)) ++ [n / 2 ^ (8 * i) % 256]) := hide (by
        rw [show m - i = (m - (i + 1)) + 1 by omega, numB, Nat.div_div_eq_div_mul, ← Nat.pow_succ, pow_8, List.append_assoc])
      have hwi : IntKind.i64.wrap ((i : Int) - 1) = (i : Int) - 1 := by rw [IntKind.wrap_i64]; omega
      have hlen : (A ++ numB (n / 256 ^ (i + 1)) (m - (i + 1))).length ≤ 90000010 := by rw [List.length_append, numB_length]; omega
      have hub := hpen.slice
      clear hpen
      generalize A ++ numB (n / 256 ^ (i + 1)) (m - (i + 1)) = C at *
      go_wp2
      refine hold_frame (p := fun fr => Code.wp Try.prog _ _ fr _) ?_
      intro fr hfr
      have e0 : fr.eval (.tmp 0) = .pointer (some ⟨p, 0, none⟩) := by rw [hfr.out]; rfl
      have e1 : fr.eval (.tmp 1) = .int .i64 n := by rw [hfr.out]; rfl
      have e7 : fr.eval (.tmp 7) = .int .i64 i := by rw [hfr.out]; rfl
      have hts : fr.tmps.size = 36 := by rw [hfr.out]; rfl
      refine region_S 14 (fun U => Blk U p [u] 100) Try.mixed ?_
      intro w0 hkw hheap
      have hP0 : PenAt w0 p u C := HPen.out.kept hkw (fun h => h) (fun _ _ h => h)
      have hS0 : Blk w0 p [u] 100 := hP0.1
      refine tkS 0 22 (v := .pointer (some ⟨p, 0, none⟩)) hS0 rfl rfl (by kernel_rfl) (by kernel_rfl) (by kernel_rfl) (by kernel_rfl) (wanted_none rfl) (fun _ _ _ h => h) (fun U hU => r_move (by simp [eval_put_ne, eval_put_eq, size_put, hts, e0])) ?_
      refine tkS 1 23 (v := .pointer (some ⟨p, 0, none⟩)) hS0 rfl rfl (by kernel_rfl) (by kernel_rfl) (by kernel_rfl) (by kernel_rfl) (wanted_none rfl) (fun _ _ _ h => h) (fun U hU => r_move (by simp [eval_put_ne, eval_put_eq, size_put, hts, e0])) ?_
      refine tkS 2 24 (v := .pointer (some ⟨p, 0, none⟩)) hS0 rfl rfl (by kernel_rfl) (by kernel_rfl) (by kernel_rfl) (by kernel_rfl) (wanted_none rfl) (fun _ _ _ h => h) (fun U hU => r_nilChk (by simp [eval_put_ne, eval_put_eq, size_put, hts])) ?_
      refine tkS 3 25 (v := .pointer (some ⟨p, 0, none⟩)) hS0 rfl rfl (by kernel_rfl) (by kernel_rfl) (by kernel_rfl) (by kernel_rfl) (wanted_none rfl) (fun _ _ _ h => h) (fun U hU => r_fld27 (by simp [eval_put_ne, eval_put_eq, size_put, hts])) ?_
      refine tkS 4 26 (v := u) hS0 rfl rfl (by kernel_rfl) (by kernel_rfl) (by kernel_rfl) (by kernel_rfl) (wanted_none rfl) (fun _ _ _ h => h) (fun U hU => r_ld25 (by simp [eval_put_ne, eval_put_eq, size_put, hts]) (hU.cell 0)) ?_
      refine tkS 5 27 (v := .int .i64 n) hS0 rfl rfl (by kernel_rfl) (by kernel_rfl) (by kernel_rfl) (by kernel_rfl) (wanted_none rfl) (fun _ _ _ h => h) (fun U hU => r_move (by simp [eval_put_ne, eval_put_eq, size_put, hts, e1])) ?_
      refine tkS 6 28 (v := .int .i64 i) hS0 rfl rfl (by kernel_rfl) (by kernel_rfl) (by kernel_rfl) (by kernel_rfl) (wanted_none rfl) (fun _ _ _ h => h) (fun U hU => r_move (by simp [eval_put_ne, eval_put_eq, size_put, hts, e7])) ?_
      refine tkS 7 29 (v := .int .i64 ((8 * i : Nat) : Int)) hS0 rfl rfl (by kernel_rfl) (by kernel_rfl) (by kernel_rfl) (by kernel_rfl) (wanted_none rfl) (fun _ _ _ h => h) (fun U hU => r_mul8 (j := i) (by omega) rfl (by simp [eval_put_ne, eval_put_eq, size_put, hts])) ?_
      refine tkS 8 30 (v := .int .i64 ((n / 2 ^ (8 * i) : Nat) : Int)) hS0 rfl rfl (by kernel_rfl) (by kernel_rfl) (by kernel_rfl) (by kernel_rfl) (wanted_none rfl) (fun _ _ _ h => h) (fun U hU => r_shr64 (k := .i64) (by omega) (by simp [eval_put_ne, eval_put_eq, size_put, hts]) (by simp [eval_put_ne, eval_put_eq, size_put, hts])) ?_
      refine tkS 9 31 (v := .int .u8 ((n / 2 ^ (8 * i) % 256 : Nat) : Int)) hS0 rfl rfl (by kernel_rfl) (by kernel_rfl) (by kernel_rfl) (by kernel_rfl) (wanted_none rfl) (fun _ _ _ h => h) (fun U hU => r_conv35 (by simp [eval_put_ne, eval_put_eq, size_put, hts])) ?_
      have hxb : n / 2 ^ (8 * i) % 256 < 256 := Nat.mod_lt _ (by decide)
      generalize n / 2 ^ (8 * i) % 256 = x at *
      have hkA := Kept.alloc (fun _ => False) w0 (.cells (BV [x]).toArray 5)
      have hbA := Blk.new w0 (BV [x]) 5
      have hsA : Src (w0.alloc (.cells (BV [x]).toArray 5)) (.slice (some ⟨w0.heap.size, 0, none⟩) 1 1) [x] := hbA.src (B := [x]) (cap := 1) (by simp [BV]) (by simpa using hxb) (Nat.le_refl _)
      have hPA : PenAt (w0.alloc (.cells (BV [x]).toArray 5)) p u C := hP0.kept hkA (fun h => h) (fun _ _ h => h)
      refine oneVS 10 32 (by kernel_rfl) rfl rfl (wanted_none rfl) (r_bs25 (w := w0) [x] rfl (by simp) (by simp [eval_put_ne, eval_put_eq, size_put, hts, BV])) hPA.1 ?_
      generalize w0.alloc (.cells (BV [x]).toArray 5) = wA at *
      generalize w0.heap.size = gA at *
      obtain ⟨v1, wB, hr1, ho1, hk1, hm1⟩ := append_src hPA.2 hsA (by simp; omega) (Nat.zero_le _) 22
      obtain ⟨bo, c, e, _⟩ := ho1.src
      subst e
      obtain ⟨hPB, hkB, hmB⟩ := hPA.stored ho1 hk1 hm1
      have hSB : Blk wB p [u] 100 := hk1.blk hPA.1 (fun e => hPA.2.blk_ne hPA.1 (by decide) e)
      refine oneVS 11 33 (by kernel_rfl) rfl rfl (wanted_none rfl) (r_append25 (by simp [eval_put_ne, eval_put_eq, size_put, hts]) (by simp [eval_put_ne, eval_put_eq, size_put, hts]) hr1) hSB ?_
      refine oneVS 12 34 (v := .pointer (some ⟨p, 0, none⟩)) (by kernel_rfl) rfl rfl (wanted_none rfl) (r_nilChk (by simp [eval_put_ne, eval_put_eq, size_put, hts])) hSB ?_
      refine oneVS 13 35 (v := .pointer (some ⟨p, 0, none⟩)) (by kernel_rfl) rfl rfl (wanted_none rfl) (r_fld27 (by simp [eval_put_ne, eval_put_eq, size_put, hts])) hSB ?_
      refine lastS (by kernel_rfl) rfl (wanted_none rfl) (r_st25 (L := []) (bo := bo) (n := (C ++ [x]).length) (c := c) (by simp [eval_put_ne, eval_put_eq, size_put, hts]) (by simp [eval_put_ne, eval_put_eq, size_put, hts]) hSB) (by kernel_rfl) ?_
      have hk0A : Kept (penS p u) wr w0 := hkw.mono (fun _ _ h => h.elim)
      have hkf : Kept (penS p u) wr (wB.setCell ⟨p, 0, none⟩ (.slice bo (C ++ [x]).length c)) := (hk0A.trans (hkA.mono (fun _ _ h => h.elim) : Kept (penS p u) w0 wA) (fun _ _ h => h)).trans hkB (fun _ _ h => h)
      have hkF := penS_trans hk hm hkf
      have hmF : moved w v (.slice bo (C ++ [x]).length c) := hm.trans (hmB) (by have := hk.size; have := hkw.size; have := hkA.size; omega)
      generalize wB.setCell ⟨p, 0, none⟩ (.slice bo (C ++ [x]).length c) = wF at *
      rw [hfr.out]
      clear hfr e0 e1 e7 hts
      simp only [put_lit, List.set_cons_succ, List.set_cons_zero]
      have HPB := hide hPB
      clear hPB hPA hbA hsA hkA hkB hk1 hr1 ho1 hm1 hSB hS0 hP0
      go_wp2
      go_roundw
      case rel => exact ⟨i, _, by omega, rfl, by rw [HNum.out]; exact HPB.out, hkF, hmF⟩
      case measure => simp [intOf]

/-- What a pen has written behind Number. -/
def penNum (A : List Nat) (n m : Int) : List Nat := if fitsN n m then A ++ numB n.toNat m.toNat else A
theorem number_at (w : World) (p : Nat) (v : Value) (A : List Nat) (hp : PenAt w p v A) (hl : A.length ≤ 90000000) (n m : Int) (hn : n ≤ 9223372036854775807) :
    Calls Try.prog 57 #[.pointer (some ⟨p, 0, none⟩), .int .i64 n, .int .i64 m] w fun e w' => ∃ v', e = .returned (.bool (fitsN n m)) ∧ PenAt w' p v' (penNum A n m) ∧ Kept (penS p v) w w' ∧ moved w v v' := by
  by_cases h : fitsN n m = true
  · obtain ⟨a, b, rfl, rfl, h1, h8, hfit⟩ := fits_of h
    unfold penNum
    rw [h, if_pos rfl]
    simp only [Int.toNat_natCast]
    exact number_ok w p v A hp hl a b (by omega) h
  · have h' : fitsN n m = false := by simpa using h
    refine (number_bad w p n m hn h').mono ?_
    rintro e w' ⟨rfl, rfl⟩
    unfold penNum
    rw [h']
    exact ⟨v, rfl, by simpa using hp, Kept.refl _ _, moved.refl _ _⟩

/-- A pen that is new since w0, and nothing of w0 has changed. -/
def Pn (w0 w : World) (p : Nat) (A : List Nat) : Prop := w0.heap.size ≤ p ∧ Kept (fun _ => False) w0 w ∧ ∃ v, PenAt w p v A ∧ ∀ k, v.ownBlock = some k → w0.heap.size ≤ k
theorem Pn.kept {w0 w w' : World} {p : Nat} {A : List Nat} (h : Pn w0 w p A) (hk : Kept (fun _ => False) w w') : Pn w0 w' p A := by
  obtain ⟨h1, h2, v, h3, h4⟩ := h
  exact ⟨h1, h2.trans hk (fun _ _ h => h), v, h3.kept hk (fun h => h) (fun _ _ h => h), h4⟩
theorem Pn.of {w0 w w' : World} {p : Nat} {v v' : Value} {A : List Nat} (h1 : w0.heap.size ≤ p) (h2 : Kept (fun _ => False) w0 w) (h4 : ∀ k, v.ownBlock = some k → w0.heap.size ≤ k) (hp : PenAt w' p v' A) (hk : Kept (penS p v) w w') (hm : moved w v v') : Pn w0 w' p A :=
  ⟨h1, h2.trans hk (fun i hi hs => by
    rcases hs with rfl | hs
    · omega
    · have := h4 i hs; omega), v', hp, fun k hk2 => by
    rcases hm k hk2 with h | h
    · exact h4 k h
    · have := h2.size; omega⟩
theorem Pn.lt {w0 w : World} {p : Nat} {A : List Nat} (h : Pn w0 w p A) : ∀ x ∈ A, x < 256 := by
  obtain ⟨h1, h2, v, h3, h4⟩ := h
  exact h3.lt
theorem Pn.base {w0 w : World} {p : Nat} {A : List Nat} (h : Pn w0 w p A) : Kept (fun _ => False) w0 w := h.2.1
theorem number_pn (w0 w : World) (p : Nat) (A : List Nat) (hp : Pn w0 w p A) (hl : A.length ≤ 90000000) (n m : Int) (hn : n ≤ 9223372036854775807) :
    Calls Try.prog 57 #[.pointer (some ⟨p, 0, none⟩), .int .i64 n, .int .i64 m] w fun e w' => e = .returned (.bool (fitsN n m)) ∧ Pn w0 w' p (penNum A n m) := by
  obtain ⟨h1, h2, v, h3, h4⟩ := hp
  refine (number_at w p v A h3 hl n m hn).mono ?_
  rintro e w' ⟨v', rfl, hp, hk, hm⟩
  exact ⟨rfl, Pn.of h1 h2 h4 hp hk hm⟩

set_option maxHeartbeats 2000000 in
theorem text_at (w : World) (p : Nat) (v : Value) (A : List Nat) (hp : PenAt w p v A) (hl : A.length ≤ 80000000) (vb : Value) (B : List Nat) (hs : Src w vb B) (hd : ∀ w', Kept (penS p v) w w' → Src w' vb B) (hB : B.length ≤ 65535) :
    Calls Try.prog 67 #[.pointer (some ⟨p, 0, none⟩), vb] w fun e w' => ∃ v', e = .returned (.bool true) ∧ PenAt w' p v' (A ++ textB B) ∧ Kept (penS p v) w w' ∧ moved w v v' := by
  have HN := hide (number_at w p v A hp (by omega) B.length 2 (by omega))
  have hfit : fitsN B.length 2 = true := by
    unfold fitsN
    rw [decide_eq_true]
    exact ⟨by decide, by decide, by omega, by simp; omega⟩
  have HA : Hid (penNum A B.length 2 = A ++ numB B.length 2) := hide (by unfold penNum; rw [hfit]; rfl)
  rw [HA.out, hfit] at HN
  have HT : Hid (A ++ numB B.length 2 ++ B = A ++ textB B) := hide (by simp [textB])
  have hlen : (A ++ numB B.length 2).length ≤ 80000002 := by rw [List.length_append, numB_length]; omega
  have HD := hide hd
  obtain ⟨bo, cap, e, _⟩ := hs
  subst e
  clear hp HA hfit hd
  generalize A ++ numB B.length 2 = C at *
  go_enter Try.func67, Try.ntmps67
  go_wp2_with fail
  refine HN.out.mono ?_
  rintro e w1 ⟨u, rfl, hP1, hk1, hm1⟩
  have hc1 := hP1.1.cell 0
  simp at hc1
  have HP1 := hide hP1
  clear hP1
  go_wp2_with (with_reducible refine stop_append2 22 22 ?_)
  refine hide ?_
  obtain ⟨v2, w2, hr2, ho2, hk2, hm2⟩ := append_src HP1.out.2 (HD.out _ hk1) (by omega) (Nat.zero_le _) 22
  refine wpList_run rfl (r_append25 rfl rfl hr2) ?_
  obtain ⟨bo2, c2, e, _⟩ := ho2.src
  subst e
  obtain ⟨hP3, hk3, hm3⟩ := HP1.out.stored ho2 hk2 hm2
  have hS2 : Blk w2 p [u] 100 := hk2.blk HP1.out.1 (fun e => HP1.out.2.blk_ne HP1.out.1 (by decide) e)
  have hc2 := hS2.cell 0
  have hf2 := hS2.frozen 0
  simp at hc2
  clear hr2 ho2 hk2 hm2
  have hkF := penS_trans hk1 hm1 hk3
  have hmF := hm1.trans hm3 hk1.size
  have HP3 := hide hP3
  clear hP3 hk3 hm3 hS2
  generalize (C ++ B).length = q at *
  go_wp2
  go_ret
  exact ⟨_, rfl, by rw [← HT.out]; exact HP3.out, hkF, hmF⟩
theorem text_pn (w0 w : World) (p : Nat) (A : List Nat) (hp : Pn w0 w p A) (hl : A.length ≤ 80000000) (vb : Value) (B : List Nat) (hs : Src w0 vb B) (hB : B.length ≤ 65535) :
    Calls Try.prog 67 #[.pointer (some ⟨p, 0, none⟩), vb] w fun e w' => e = .returned (.bool true) ∧ Pn w0 w' p (A ++ textB B) := by
  obtain ⟨h1, h2, v, h3, h4⟩ := hp
  refine (text_at w p v A h3 hl vb B (hs.kept h2) (fun w' hk => hs.kept (h2.trans hk (fun i hi hs => by
    rcases hs with rfl | hs
    · omega
    · have := h4 i hs; omega))) hB).mono ?_
  rintro e w' ⟨v', rfl, hp, hk, hm⟩
  exact ⟨rfl, Pn.of h1 h2 h4 hp hk hm⟩

end Go.Proofs.Ytbbhchmdggfncaa
