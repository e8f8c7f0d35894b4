/-
  The reference's scan: Number, Text, Noughts.
-/
import Derived.Test.YtcdlgaknpmlfeaaPRef
namespace Go.Proofs.Ytcdlgaknpmlfeaa
open Go.RowKit Go.Shelf
set_option linter.unusedSimpArgs false
set_option linter.unusedVariables false

/-- The reference's scan at x. -/
def RefAt (w : World) (x : Nat) (B : List Nat) (E : Int) : Prop := Blk w x [.string (strN B), .int .i64 E] 56
theorem strN_at (B : List Nat) (i : Nat) (hi : i < B.length) (hB : ∀ x ∈ B, x < 256) (h : i < (strN B).size) : ((strN B)[i]'h).toNat = B[i] := by
  have e : (strN B).data[i]? = some (UInt8.ofNat B[i]) := by rw [strN_data]; simp [hi]
  have e2 : (strN B)[i]'h = UInt8.ofNat B[i] := by
    have h3 := (Array.getElem?_eq_some_iff.1 e).2
    exact h3
  have := hB _ (List.getElem_mem hi)
  rw [e2]
  simp
  omega

section
variable {P : Program} {ops : Array Oper} {Q : Exit → Act → World → Prop} {a : Act} {w : World} {rest : List Oper} {dst : Option Tmp} {ty : TypeId} {pos : String} {aft : Array Edge} {x y : Operand}
theorem stop_index (t : TypeId) (h : Hid (wpList P ops Q (⟨dst, .index t x y, ty, pos, aft, none⟩ :: rest) a w)) : wpList P ops Q (⟨dst, .index t x y, ty, pos, aft, none⟩ :: rest) a w := h.out
end
section
variable {ρ : Operand → Value} {w : World} {dst : Option Tmp} {ty : TypeId} {pos : String} {aft : Array Edge} {gd : Option (Nat × Bool)} {x y z : Operand}
theorem r_idx9 {B : List Nat} (i : Nat) (hi : i < B.length) (hB : ∀ x ∈ B, x < 256) (hx : ρ x = .string (strN B)) (hy : ρ y = .int .i64 i) :
    (execOp ρ ⟨dst, .index 9 x y, ty, pos, aft, gd⟩).run Try.prog w = .ok (.value (.int .u8 (B[i] : Int))) w := by
  have hsz : (strN B).size = B.length := strN_size B
  have h0 : ¬ ((i : Int) < 0) := by omega
  have h1 : (i : Int) < (B.length : Int) := by omega
  go_simp
  rw [strN_at B i hi hB]
theorem r_lo9 {B : List Nat} (l : Nat) (hl : l ≤ B.length) (hx : ρ x = .string (strN B)) (hy : ρ y = .int .i64 l) :
    (execOp ρ ⟨dst, .slice 9 x (some y) none none, ty, pos, aft, gd⟩).run Try.prog w = .ok (.value (.string (strN (B.drop l)))) w := by
  have hsz : (strN B).size = B.length := strN_size B
  have h2 : (0 : Int) ≤ (l : Int) ∧ (l : Int) ≤ (B.length : Int) := by omega
  have e := strN_extract B l B.length
  rw [List.take_length] at e
  simp [execOp, Instr.sliceAt, run_underlying Try.underlying9, Instr.slice, hx, hy, Instr.sliceBounds, Instr.sliceBound, asIntOf, hsz, h2, hl, e]
theorem r_hi9 {B : List Nat} (h : Nat) (hl : h ≤ B.length) (hx : ρ x = .string (strN B)) (hy : ρ y = .int .i64 h) :
    (execOp ρ ⟨dst, .slice 9 x none (some y) none, ty, pos, aft, gd⟩).run Try.prog w = .ok (.value (.string (strN (B.take h)))) w := by
  have hsz : (strN B).size = B.length := strN_size B
  have h2 : (0 : Int) ≤ (h : Int) ∧ (h : Int) ≤ (B.length : Int) := by omega
  have e := strN_extract B 0 h
  rw [List.drop_zero] at e
  simp [execOp, Instr.sliceAt, run_underlying Try.underlying9, Instr.slice, hx, hy, Instr.sliceBounds, Instr.sliceBound, asIntOf, hsz, h2, hl, e]
end

theorem first_no8 {B : List Nat} (hB : ∀ x ∈ B, x < 256) (hl : 8 ≤ B.length) (h : ¬ B[0]'(by omega) ≤ 127) : firstN B 8 = none := by
  have h1 := firstN_is (B := B) (m := 8) (by decide) (by decide) hl
  have h2 := eight_lt B hB hl
  have e : B.getD 0 0 = B[0]'(by omega) := by rw [List.getD_eq_getElem?_getD, List.getElem?_eq_getElem (by omega)]; rfl
  rw [e] at h2
  rw [show ((8 : Nat) : Int) = 8 from rfl] at h1
  rw [h1, if_neg (fun h3 => h (h2.1 h3))]
theorem first_yes {B : List Nat} (hB : ∀ x ∈ B, x < 256) (m : Nat) (h1 : 1 ≤ m) (h8 : m ≤ 8) (hl : m ≤ B.length) (h : m = 8 → B[0]'(by omega) ≤ 127) : firstN B m = some (valN (B.take m)) ∧ valN (B.take m) < 9223372036854775808 := by
  have hv : valN (B.take m) < 9223372036854775808 := by
    by_cases h7 : m ≤ 7
    · exact seven_lt B hB m h7
    · obtain rfl : m = 8 := by omega
      have h2 := eight_lt B hB hl
      have e : B.getD 0 0 = B[0]'(by omega) := by rw [List.getD_eq_getElem?_getD, List.getElem?_eq_getElem (by omega)]; rfl
      rw [e] at h2
      exact h2.2 (h rfl)
  rw [firstN_is h1 h8 hl, if_pos hv]
  exact ⟨rfl, hv⟩
theorem RefAt.fail {w : World} {x : Nat} {B : List Nat} {E : Int} (h : RefAt w x B E) : RefAt (w.setCell ⟨x, 1, none⟩ (.int .i64 20)) x B 20 ∧ Kept (fun k => k = x) w (w.setCell ⟨x, 1, none⟩ (.int .i64 20)) :=
  ⟨by have h2 := Blk.setCell h 1 (.int .i64 20); unfold RefAt; simpa using h2, Kept.setCell (S := fun k => k = x) w ⟨x, 1, none⟩ (.int .i64 20) rfl⟩
theorem RefAt.go {w : World} {x : Nat} {B C : List Nat} {E : Int} (h : RefAt w x B E) : RefAt (w.setCell ⟨x, 0, none⟩ (.string (strN C))) x C E ∧ Kept (fun k => k = x) w (w.setCell ⟨x, 0, none⟩ (.string (strN C))) :=
  ⟨by have h2 := Blk.setCell h 0 (.string (strN C)); unfold RefAt; simpa using h2, Kept.setCell (S := fun k => k = x) w ⟨x, 0, none⟩ (.string (strN C)) rfl⟩

set_option maxHeartbeats 4000000 in
theorem refnum_at (w : World) (x : Nat) (B : List Nat) (hB : ∀ y ∈ B, y < 256) (E : Int) (h : RefAt w x B E) (hl : B.length ≤ 1000000) (m : Int) (hm : m ≤ 9223372036854775807) :
    Calls Try.prog 29 #[.pointer (some ⟨x, 0, none⟩), .int .i64 m] w fun e w' => e = .returned (.int .i64 (scanNum B E m).1) ∧ RefAt w' x (scanNum B E m).2.1 (scanNum B E m).2.2 ∧ Kept (fun k => k = x) w w' := by
  have HH := hide h
  have c0 : w.cell? ⟨x, 0, none⟩ = some (.string (strN B)) := Blk.cell h 0
  have c1 : w.cell? ⟨x, 1, none⟩ = some (.int .i64 E) := Blk.cell h 1
  have f0 := Blk.frozen h 0
  have f1 := Blk.frozen h 1
  have hsz : (strN B).size = B.length := strN_size B
  have HB := hide hB
  clear h hB
  by_cases hE : E = 0
  · subst hE
    by_cases h1 : m < 1
    · rw [sN_none (firstN_no (by omega))]
      go_enter Try.func29, Try.ntmps29
      go_wp2
      go_ret
      exact ⟨rfl, HH.out.fail.1, HH.out.fail.2⟩
    · by_cases h8 : m > 8
      · rw [sN_none (firstN_no (by omega))]
        go_enter Try.func29, Try.ntmps29
        go_wp2
        go_ret
        exact ⟨rfl, HH.out.fail.1, HH.out.fail.2⟩
      · obtain ⟨q, rfl⟩ : ∃ q : Nat, m = q := ⟨m.toNat, by omega⟩
        by_cases hfew : B.length < q
        · rw [sN_none (firstN_few (by omega))]
          have hfew' : (B.length : Int) < (q : Int) := by omega
          go_enter Try.func29, Try.ntmps29
          go_wp2
          go_ret
          exact ⟨rfl, HH.out.fail.1, HH.out.fail.2⟩
        · have hfew' : ¬ (B.length : Int) < (q : Int) := by omega
          have hb0 : 0 < B.length := by omega
          have hi0 : ((strN B)[0]'(by omega)).toNat = B[0] := strN_at B 0 hb0 HB.out (by omega)
          obtain ⟨b0, hb0'⟩ : ∃ b, B[0] = b := ⟨_, rfl⟩
          rw [hb0'] at hi0
          by_cases hbad : q = 8 ∧ 127 < b0
          · obtain ⟨rfl, hb127⟩ := hbad
            rw [show ((8 : Nat) : Int) = 8 from rfl, sN_none (first_no8 HB.out (by omega) (by rw [hb0']; omega))]
            clear hb0'
            go_enter Try.func29, Try.ntmps29
            go_wp2
            go_ret
            exact ⟨rfl, HH.out.fail.1, HH.out.fail.2⟩
          · obtain ⟨hf1, hf2⟩ := first_yes HB.out q (by omega) (by omega) (by omega) (fun e => by rw [hb0']; omega)
            rw [sN_some hf1, Int.toNat_natCast]
            have HV := hide hf2
            have HLoop : ∀ (k : Nat) (hk : k < q), Hid (valN (B.take (k + 1)) = 256 * valN (B.take k) + B[k]'(by omega)) ∧ valN (B.take (k + 1)) < 9223372036854775808 := by
              intro k hk
              refine ⟨hide ?_, ?_⟩
              · rw [← List.take_append_getElem (by omega : k < B.length), valN_snoc]; omega
              · exact Nat.lt_of_le_of_lt (val_take_lt B HB.out q (k + 1) (by omega) (by omega)) hf2
            have HLp := hide HLoop
            clear HLoop hf1 hf2 hb0'
            by_cases hq8 : q = 8
            · subst hq8
              have hb127 : ¬ b0 > 127 := by omega
              clear hbad
              go_enter Try.func29, Try.ntmps29
              go_wp2
              go_loopw [5, 6] (fun v i wr => ∃ k : Nat, k ≤ 8 ∧ v = .int .i64 (valN (B.take k) : Nat) ∧ i = .int .i64 k ∧ w = wr) (fun _ i _ => 8 - (intOf i).toNat)
              case atStart => exact ⟨0, by omega, rfl, rfl, rfl⟩
              case round =>
                obtain ⟨k, hk, rfl, rfl, rfl⟩ := hrel
                by_cases hlt : k < 8
                · obtain ⟨HT, hTl⟩ := HLp.out k hlt
                  have hx := HB.out _ (List.getElem_mem (by omega : k < B.length))
                  have HI : Hid (∀ (ρ : Operand → Value) (dst : Option Tmp) (ty : TypeId) (pos : String) (aft : Array Edge) (x y : Operand), ρ x = .string (strN B) → ρ y = .int .i64 k → (execOp ρ ⟨dst, .index 9 x y, ty, pos, aft, none⟩).run Try.prog w = .ok (.value (.int .u8 (B[k]'(by omega) : Int))) w) := hide (fun ρ dst ty pos aft x y h1 h2 => r_idx9 k (by omega) HB.out h1 h2)
                  obtain ⟨t, ht⟩ : ∃ t, valN (B.take (k + 1)) = t := ⟨_, rfl⟩
                  rw [ht] at HT hTl
                  generalize valN (B.take k) = r at *
                  generalize B[k]'(by omega) = y at *
                  have hw1 : IntKind.i64.wrap (256 * (r : Int)) = 256 * (r : Int) := by have := HT.out; rw [IntKind.wrap_i64]; omega
                  have hw2 : IntKind.i64.wrap (256 * (r : Int) + (y : Int)) = (t : Int) := by have := HT.out; rw [IntKind.wrap_i64]; omega
                  have hw3 : IntKind.i64.wrap (y : Int) = (y : Int) := by rw [IntKind.wrap_i64]; omega
                  have HTt := hide ht
                  clear ht
                  go_wp2_with (with_reducible refine stop_index 9 ?_)
                  refine hide ?_
                  refine wpList_run rfl (HI.out _ _ _ _ _ _ _ rfl rfl) ?_
                  go_wp2
                  go_roundw
                  case rel => exact ⟨k + 1, by omega, by rw [HTt.out], by go_num, trivial⟩
                  case measure => simp [intOf]; omega
                · obtain rfl : k = 8 := by omega
                  obtain ⟨t, ht⟩ : ∃ t, valN (B.take 8) = t := ⟨_, rfl⟩
                  rw [ht]
                  have HTt := hide ht
                  clear ht
                  obtain ⟨hg1, hg2⟩ := HH.out.go (C := B.drop 8)
                  have HG1 := hide hg1
                  have HG2 := hide hg2
                  clear hg1 hg2
                  go_wp2_with (with_reducible refine stop_slice 9 ?_)
                  refine hide ?_
                  refine wpList_run rfl (r_lo9 (B := B) 8 (by omega) rfl rfl) ?_
                  generalize strN (B.drop 8) = sd at *
                  go_wp2
                  go_ret
                  exact ⟨by rw [HTt.out]; rfl, HG1.out, HG2.out⟩
            · have hq8' : ¬ ((q : Int) = 8) := by omega
              clear hbad
              go_enter Try.func29, Try.ntmps29
              go_wp2
              go_loopw [5, 6] (fun v i wr => ∃ k : Nat, k ≤ q ∧ v = .int .i64 (valN (B.take k) : Nat) ∧ i = .int .i64 k ∧ w = wr) (fun _ i _ => q - (intOf i).toNat)
              case atStart => exact ⟨0, by omega, rfl, rfl, rfl⟩
              case round =>
                obtain ⟨k, hk, rfl, rfl, rfl⟩ := hrel
                by_cases hlt : k < q
                · obtain ⟨HT, hTl⟩ := HLp.out k hlt
                  have hx := HB.out _ (List.getElem_mem (by omega : k < B.length))
                  have HI : Hid (∀ (ρ : Operand → Value) (dst : Option Tmp) (ty : TypeId) (pos : String) (aft : Array Edge) (x y : Operand), ρ x = .string (strN B) → ρ y = .int .i64 k → (execOp ρ ⟨dst, .index 9 x y, ty, pos, aft, none⟩).run Try.prog w = .ok (.value (.int .u8 (B[k]'(by omega) : Int))) w) := hide (fun ρ dst ty pos aft x y h1 h2 => r_idx9 k (by omega) HB.out h1 h2)
                  obtain ⟨t, ht⟩ : ∃ t, valN (B.take (k + 1)) = t := ⟨_, rfl⟩
                  rw [ht] at HT hTl
                  generalize valN (B.take k) = r at *
                  generalize B[k]'(by omega) = y at *
                  have hw1 : IntKind.i64.wrap (256 * (r : Int)) = 256 * (r : Int) := by have := HT.out; rw [IntKind.wrap_i64]; omega
                  have hw2 : IntKind.i64.wrap (256 * (r : Int) + (y : Int)) = (t : Int) := by have := HT.out; rw [IntKind.wrap_i64]; omega
                  have hw3 : IntKind.i64.wrap (y : Int) = (y : Int) := by rw [IntKind.wrap_i64]; omega
                  have HTt := hide ht
                  clear ht
                  go_wp2_with (with_reducible refine stop_index 9 ?_)
                  refine hide ?_
                  refine wpList_run rfl (HI.out _ _ _ _ _ _ _ rfl rfl) ?_
                  go_wp2
                  go_roundw
                  case rel => exact ⟨k + 1, by omega, by rw [HTt.out], by go_num, trivial⟩
                  case measure => simp [intOf]; omega
                · obtain rfl : k = q := by omega
                  obtain ⟨t, ht⟩ : ∃ t, valN (B.take k) = t := ⟨_, rfl⟩
                  rw [ht]
                  have HTt := hide ht
                  clear ht
                  obtain ⟨hg1, hg2⟩ := HH.out.go (C := B.drop k)
                  have HG1 := hide hg1
                  have HG2 := hide hg2
                  clear hg1 hg2
                  go_wp2_with (with_reducible refine stop_slice 9 ?_)
                  refine hide ?_
                  refine wpList_run rfl (r_lo9 (B := B) k (by omega) rfl rfl) ?_
                  generalize strN (B.drop k) = sd at *
                  go_wp2
                  go_ret
                  exact ⟨by rw [HTt.out]; rfl, HG1.out, HG2.out⟩
  · rw [scanNum_err m hE]
    go_enter Try.func29, Try.ntmps29
    go_wp2
    go_ret
    exact ⟨rfl, HH.out, Kept.refl _ _⟩

end Go.Proofs.Ytcdlgaknpmlfeaa
