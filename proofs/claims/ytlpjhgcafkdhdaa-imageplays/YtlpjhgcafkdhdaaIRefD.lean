/-
  The document's own answer: Diff.
-/
import Derived.Test.YtlpjhgcafkdhdaaIRefW
namespace Go.Proofs.Ytlpjhgcafkdhdaa
open Go.RowKit Go.Shelf
set_option linter.unusedSimpArgs false
set_option linter.unusedVariables false
set_option maxRecDepth 100000

theorem stop_binG {P : Program} {ops : Array Oper} {Q : Exit → Act → World → Prop} {a : Act} {w : World} {rest : List Oper} {dst : Option Tmp} {ty : TypeId} {pos : String} {aft : Array Edge} {gd : Option (Nat × Bool)} {x y : Operand} (o : BinOp) (h : Hid (wpList P ops Q (⟨dst, .binOp o 9 x y 9, ty, pos, aft, gd⟩ :: rest) a w)) : wpList P ops Q (⟨dst, .binOp o 9 x y 9, ty, pos, aft, gd⟩ :: rest) a w := h.out

set_option maxRecDepth 100000 in
set_option maxHeartbeats 4000000 in
theorem rdiff_at (w : World) (n m : Nat) (A B : List Nat) (hA : A.length = 64 * n) (hB : B.length = 64 * m) (hAl : ∀ x ∈ A, x < 256) (hBl : ∀ x ∈ B, x < 256) (hn : n ≤ 64) (hm : m ≤ 64) :
    Calls Try.prog 18 #[.string (strN A), .string (strN B)] w fun e w' => ∃ v, e = .returned v ∧ Gath w w' v (diffB n A m B) := by
  have HAl := hide hA
  have HBl := hide hB
  have HN := hide hn
  have HM := hide hm
  obtain ⟨mx, hmx⟩ : ∃ mx, max n m = mx := ⟨_, rfl⟩
  have HMX := hide hmx
  have hmx1 : n ≤ mx ∧ m ≤ mx ∧ mx ≤ 64 := by omega
  have HM1 := hide hmx1
  have hmor : ∀ k, k < mx → k < n ∨ k < m := by omega
  have HOr := hide hmor
  have Hres : Hid (diffTo n A m B mx = diffB n A m B) := hide (by rw [← HMX.out]; rfl)
  obtain ⟨i3, hi3, hz3, hs3, hb3⟩ := info_parts Try.info3
  have Hi3 := hide hi3
  have Hz3 := hide hz3
  have Hs3 := hide hs3
  have Hb3 := hide hb3
  have hsa : (strN A).size = A.length := strN_size A
  have hsb : (strN B).size = B.length := strN_size B
  have h64 : (A.length : Int) / 64 = n := by omega
  have h64t : (A.length : Int).tdiv 64 = n := by rw [Int.tdiv_eq_ediv_of_nonneg (by omega)]; exact h64
  have g64 : (B.length : Int) / 64 = m := by omega
  have g64t : (B.length : Int).tdiv 64 = m := by rw [Int.tdiv_eq_ediv_of_nonneg (by omega)]; exact g64
  have hwn : IntKind.i64.wrap (n : Int) = n := by rw [IntKind.wrap_i64]; omega
  have hwm : IntKind.i64.wrap (m : Int) = m := by rw [IntKind.wrap_i64]; omega
  obtain ⟨la, hla⟩ : ∃ len, A.length = len := ⟨_, rfl⟩
  obtain ⟨lb, hlb⟩ : ∃ len, B.length = len := ⟨_, rfl⟩
  rw [hla] at hsa h64 h64t
  rw [hlb] at hsb g64 g64t
  have HAlt := hide hAl
  have HBlt := hide hBl
  have hgetA := fun (wr : World) (k : Nat) (r : Bool) (hr : decide (0 ≤ (k : Int) ∧ (k : Int) < n) = r) => rget_at wr A n HAl.out HN.out k r hr
  have hgetB := fun (wr : World) (k : Nat) (r : Bool) (hr : decide (0 ≤ (k : Int) ∧ (k : Int) < m) = r) => rget_at wr B m HBl.out HM.out k r hr
  obtain ⟨ta, hta⟩ : ∃ t, strN A = t := ⟨_, rfl⟩
  obtain ⟨tb, htb⟩ : ∃ t, strN B = t := ⟨_, rfl⟩
  rw [hta] at hsa ⊢
  rw [htb] at hsb ⊢
  simp only [hta] at hgetA
  simp only [htb] at hgetB
  have HGA := hide hgetA
  have HGB := hide hgetB
  clear hta htb hgetA hgetB
  clear hA hB hmx hmx1 hi3 hz3 hs3 hb3 hla hlb hmor hAl hBl hn hm
  go_enter Try.func18, Try.ntmps18
  go_wp2
  have hmxI : (mx : Int) ≤ 64 := by have := HM1.out; omega
  go_loopw [5, 6] (fun o i wr => ∃ k : Nat, i = .int .i64 k ∧ k ≤ mx ∧ Hid (Gath w wr o (diffTo n A m B k)))
    (fun o i _ => mx - (intOf i).toNat)
  case atStart => exact ⟨0, rfl, Nat.zero_le _, hide (Gath.nil _ _ (Kept.refl _ _))⟩
  case round =>
    obtain ⟨k, rfl, hk, HG⟩ := hrel
    obtain ⟨oa, oc, rfl⟩ := ownsRow_slice HG.out.1
    by_cases hlt : k < mx
    · have hsucc := hide (diffTo_succ n A m B k)
      have Hlen := hide (diffTo_len n A m B k)
      have push : ∀ (w' : World) (o' : Value), w'.ownsRow 0 3 1 o' ((diffTo n A m B k).length + 1) (IV (diffTo n A m B k) ++ [.int .i64 k]) → Kept (fun j => (Value.slice oa (diffTo n A m B k).length oc).ownBlock = some j) wr w' → (∀ j, o'.ownBlock = some j → (Value.slice oa (diffTo n A m B k).length oc).ownBlock = some j ∨ wr.heap.size ≤ j) → unlikeB n A m B k = true → Gath w w' o' (diffTo n A m B (k + 1)) := by
        intro w' o' h2 h3 h4 h5
        rw [hsucc.out, if_pos h5]
        exact HG.out.push h2 h3 h4
      have HPush := hide push
      have hor := HOr.out k hlt
      clear push
      by_cases h1 : k < n
      · have hkn : (k : Int) < n := by omega
        have d1 : decide (0 ≤ (k : Int) ∧ (k : Int) < n) = true := by simp; omega
        by_cases h2 : k < m
        · have hkm : (k : Int) < m := by omega
          have d2 : decide (0 ≤ (k : Int) ∧ (k : Int) < m) = true := by simp; omega
          have e1 : rgetB A n k = getB A k := by unfold rgetB; rw [if_pos (by omega), Int.toNat_natCast]
          have e2 : rgetB B m k = getB B k := by unfold rgetB; rw [if_pos (by omega), Int.toNat_natCast]
          have C1 := hide (HGA.out wr k true d1)
          have C2 := hide (HGB.out wr k true d2)
          rw [e1] at C1
          rw [e2] at C2
          obtain ⟨r, hr⟩ : ∃ r, (!decide (getB A k = getB B k)) = r := ⟨_, rfl⟩
          have Hun : Hid (unlikeB n A m B k = r) := hide (by rw [← hr]; simp [unlikeB, h1, h2])
          obtain ⟨SA, hSA⟩ : ∃ S, strN (getB A k) = S := ⟨_, rfl⟩
          obtain ⟨SB, hSB⟩ : ∃ S, strN (getB B k) = S := ⟨_, rfl⟩
          have hrS : r = !decide (SA = SB) := by
            rw [← hr, ← hSA, ← hSB]
            congr 1
            exact decide_eq_decide.2 (strN_iff (getB_lt HAlt.out k) (getB_lt HBlt.out k)).symm
          rw [hSA] at C1
          rw [hSB] at C2
          have HRS := hide hrS
          have HNeq := hide (fun (ρ : Operand → Value) (w : World) (dst : Option Tmp) (ty : TypeId) (x y : Operand) (pos : String) (aft : Array Edge) (gd : Option (Nat × Bool)) (hx : ρ x = .string SA) (hy : ρ y = .string SB) => r_neq9 (dst := dst) (ty := ty) (pos := pos) (aft := aft) (gd := gd) (w := w) hx hy)
          clear e1 e2 hr hSA hSB hrS
          go_wp2_with fail
          refine C1.out.mono ?_
          rintro e w5 ⟨rfl, rfl⟩
          go_wp2_with fail
          refine C2.out.mono ?_
          rintro e w5 ⟨rfl, rfl⟩
          go_wp2_with (with_reducible refine stop_binG .neq ?_)
          refine hide ?_
          refine wpList_runG rfl (HNeq.out _ _ _ _ _ _ _ _ _ rfl rfl) ?_
          rw [show decide (SA ≠ SB) = r by rw [HRS.out]; simp]
          try simp only [put_lit, put_none, List.set_cons_succ, List.set_cons_zero]
          clear HNeq HRS C1 C2
          cases r with
          | true =>
            go_wp2_with (with_reducible refine stop_bs1 40 ?_)
            refine hide ?_
            refine aw_push (v := .int .i64 k) (o := .slice oa (diffTo n A m B k).length oc) Try.underlying40 Hi3.out Hz3.out Hs3.out Hb3.out rfl (by decide) rfl rfl rfl rfl rfl HG.out.1 (by have := Hlen.out; omega) ?_
            intro o' w' q1 q2 q3
            have HG' := hide (HPush.out _ _ q1 q2 q3 Hun.out)
            obtain ⟨oa', oc', rfl⟩ := ownsRow_slice q1
            clear q1 q2 q3
            try simp only [put_lit, put_none, List.set_cons_succ, List.set_cons_zero]
            go_wp2
            go_roundw
            case rel => exact ⟨k + 1, by simp, by omega, HG'⟩
            case measure => simp [intOf]; omega
          | false =>
            go_wp2
            go_roundw
            case rel => exact ⟨k + 1, by simp, by omega, hide (by rw [hsucc.out, if_neg (by rw [Hun.out]; decide)]; exact HG.out)⟩
            case measure => simp [intOf]; omega
        · have d2 : decide (0 ≤ (k : Int) ∧ (k : Int) < m) = false := by simp; omega
          have C1 := hide (HGA.out wr k true d1)
          have C2 := hide (HGB.out wr k false d2)
          have Hun : Hid (unlikeB n A m B k = true) := hide (by simp [unlikeB, h2])
          go_wp2_with fail
          refine C1.out.mono ?_
          rintro e w5 ⟨rfl, rfl⟩
          go_wp2_with fail
          refine C2.out.mono ?_
          rintro e w5 ⟨rfl, rfl⟩
          go_wp2_with (with_reducible refine stop_bs1 40 ?_)
          refine hide ?_
          refine aw_push (v := .int .i64 k) (o := .slice oa (diffTo n A m B k).length oc) Try.underlying40 Hi3.out Hz3.out Hs3.out Hb3.out rfl (by decide) rfl rfl rfl rfl rfl HG.out.1 (by have := Hlen.out; omega) ?_
          intro o' w' q1 q2 q3
          have HG' := hide (HPush.out _ _ q1 q2 q3 Hun.out)
          obtain ⟨oa', oc', rfl⟩ := ownsRow_slice q1
          clear q1 q2 q3
          try simp only [put_lit, put_none, List.set_cons_succ, List.set_cons_zero]
          go_wp2
          go_roundw
          case rel => exact ⟨k + 1, by simp, by omega, HG'⟩
          case measure => simp [intOf]; omega
      · have d1 : decide (0 ≤ (k : Int) ∧ (k : Int) < n) = false := by simp; omega
        have hkm : (k : Int) < m := by omega
        have hkn : ¬ (k : Int) < n := by omega
        have d2 : decide (0 ≤ (k : Int) ∧ (k : Int) < m) = true := by simp; omega
        have C1 := hide (HGA.out wr k false d1)
        have C2 := hide (HGB.out wr k true d2)
        have Hun : Hid (unlikeB n A m B k = true) := hide (by simp [unlikeB, h1])
        go_wp2_with fail
        refine C1.out.mono ?_
        rintro e w5 ⟨rfl, rfl⟩
        go_wp2_with fail
        refine C2.out.mono ?_
        rintro e w5 ⟨rfl, rfl⟩
        go_wp2_with (with_reducible refine stop_bs1 40 ?_)
        refine hide ?_
        refine aw_push (v := .int .i64 k) (o := .slice oa (diffTo n A m B k).length oc) Try.underlying40 Hi3.out Hz3.out Hs3.out Hb3.out rfl (by decide) rfl rfl rfl rfl rfl HG.out.1 (by have := Hlen.out; omega) ?_
        intro o' w' q1 q2 q3
        have HG' := hide (HPush.out _ _ q1 q2 q3 Hun.out)
        obtain ⟨oa', oc', rfl⟩ := ownsRow_slice q1
        clear q1 q2 q3
        try simp only [put_lit, put_none, List.set_cons_succ, List.set_cons_zero]
        go_wp2
        go_roundw
        case rel => exact ⟨k + 1, by simp, by omega, HG'⟩
        case measure => simp [intOf]; omega
    · obtain rfl : k = mx := by omega
      have q1 : ¬ (k : Int) < n := by have := HM1.out; omega
      have q2 : ¬ (k : Int) < m := by have := HM1.out; omega
      go_wp2
      go_ret
      exact ⟨_, rfl, by rw [← Hres.out]; exact HG.out⟩
end Go.Proofs.Ytlpjhgcafkdhdaa
