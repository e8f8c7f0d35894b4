/-
  Bytes as strings; bytes.Equal; the reference's Four; copying and appending bytes.
-/
import Derived.Test.YteacfkbchgjcbaaMark
namespace Go.Proofs.Yteacfkbchgjcbaa
open Go.RowKit Go.Shelf
set_option linter.unusedSimpArgs false
set_option linter.unusedVariables false

section
variable {ρ : Operand → Value} {w : World} {dst : Option Tmp} {ty : TypeId} {pos : String} {aft : Array Edge} {gd : Option (Nat × Bool)} {x y z : Operand}
theorem run_strS {v : Value} {B : List Nat} (hs : Src w v B) : (convert 22 9 v).run Try.prog w = .ok (.string (strN B)) w := by
  obtain ⟨bo, cap, rfl, hcap, hB, hsrc, hnil⟩ := hs
  by_cases h0 : B.length = 0
  · obtain rfl : B = [] := List.eq_nil_of_length_eq_zero h0
    have h := run_convert_bytes_string (P := Try.prog) w 22 9 5 bo 0 cap Try.underlying22 Try.underlying5 Try.underlying9
    have h2 : (Conv.bytesToString (.slice bo 0 cap)).run Try.prog w = .ok (.string (strN [])) w := by
      cases bo <;> simp [Conv.bytesToString, strN, strOfNums, Builtin.firstCells, loadCells] <;> rfl
    simpa using h.trans h2
  · obtain ⟨sb, so, rfl, hc⟩ := hsrc (by omega)
    exact run_convert_bytes_arg (P := Try.prog) w 22 5 Try.underlying22 Try.underlying5 sb so B.length cap (B.map fun n : Nat => (n : Int)) (by simp) (fun i hi => by
      have h1 := hc i _ (BV_get B i hi)
      rw [h1]
      simp [List.getD, hi]) 9 Try.underlying9
theorem r_strS {v : Value} {B : List Nat} (hx : ρ x = v) (hs : Src w v B) :
    (execOp ρ ⟨dst, .convert 22 9 x, ty, pos, aft, gd⟩).run Try.prog w = .ok (.value (.string (strN B))) w := by
  simp [execOp, hx, run_strS hs]
theorem r_bs22 (M : List Nat) {n : Nat} {es : Array (Nat × Operand)} (hn : n = M.length) (hbig : M.length ≤ 16777216) (hes : es.toList.map (fun p => (p.1, ρ p.2)) = ((BV M).zipIdx 0).map fun p => (p.2, p.1)) :
    (execOp ρ ⟨dst, .buildSlice 22 n es, ty, pos, aft, gd⟩).run Try.prog w = .ok (.value (.slice (some ⟨w.heap.size, 0, none⟩) n n)) (w.alloc (.cells (BV M).toArray 5)) := by
  obtain ⟨i5, hi5, hz5, hs5, hb5⟩ := info_parts Try.info5
  exact run_bs1 Try.underlying22 hi5 hz5 hs5 (BV M) (by rw [BV_length, hn]) (by rw [BV_length]; exact hbig) (fun v hv => by
    simp [BV] at hv
    obtain ⟨k, _, rfl⟩ := hv
    rfl) hes
theorem r_append22 {u v v' : Value} {w' : World} (hx : ρ x = u) (hy : ρ y = v) (h : (Builtin.append_ #[22, 22] ty #[u, v]).run Try.prog w = .ok v' w') :
    (execOp ρ ⟨dst, .call { callee := .builtin .append, args := #[x, y], argTypes := #[22, 22] }, ty, pos, aft, gd⟩).run Try.prog w = .ok (.value v') w' := by
  simp [execOp, resolve, invoke, builtin, hx, hy, h]
theorem r_copy22 {u v v' : Value} {w' : World} (hx : ρ x = u) (hy : ρ y = v) (h : (Builtin.copy_ #[22, 22] ty #[u, v]).run Try.prog w = .ok v' w') :
    (execOp ρ ⟨dst, .call { callee := .builtin .copy, args := #[x, y], argTypes := #[22, 22] }, ty, pos, aft, gd⟩).run Try.prog w = .ok (.value v') w' := by
  simp [execOp, resolve, invoke, builtin, hx, hy, h]
end

theorem Blk.src {w : World} {g cap : Nat} {L : List Value} {B : List Nat} (h : Blk w g L 5) (hL : L.take B.length = BV B) (hB : ∀ x ∈ B, x < 256) (hc : B.length ≤ cap) : Src w (.slice (some ⟨g, 0, none⟩) B.length cap) B := by
  refine ⟨_, _, rfl, hc, hB, fun _ => ⟨g, 0, rfl, ?_⟩, fun h => by cases h⟩
  have := h.cells 0 B.length
  rw [List.drop_zero, hL] at this
  exact this
theorem Src.lt {w : World} {v : Value} {B : List Nat} (h : Src w v B) : ∀ x ∈ B, x < 256 := by
  obtain ⟨bo, cap, rfl, _, h2, _⟩ := h
  exact h2

/-- A slice of one's own that holds the bytes A. -/
def Own (w : World) (base : Nat) (v : Value) (A : List Nat) : Prop := w.ownsRow base 5 1 v A.length (BV A) ∧ ∀ x ∈ A, x < 256
theorem Own.src {w : World} {base : Nat} {v : Value} {A : List Nat} (h : Own w base v A) : Src w v A := by
  obtain ⟨h, hA⟩ := h
  rcases h.2 with ⟨rfl, h0⟩ | ⟨g, cap, cur, rfl, hb, hg, hnc, hcm, hcs, htake⟩
  · obtain rfl : A = [] := List.eq_nil_of_length_eq_zero h0
    exact ⟨none, 0, rfl, Nat.le_refl _, hA, fun h => by simp at h, fun _ => rfl⟩
  · refine Blk.src (L := cur.toList) (by unfold Blk; simpa using hg) ?_ hA hnc
    simpa using htake
theorem Own.new (w : World) : Own (w.alloc (.cells #[] 5)) w.heap.size (.slice (some ⟨w.heap.size, 0, none⟩) 0 0) [] :=
  ⟨World.ownsRow_made w #[] 0 (Nat.le_refl _) (Nat.zero_le _) rfl, by simp⟩
theorem append_src {w : World} {base : Nat} {v u : Value} {A B : List Nat} (ho : Own w base v A) (hs : Src w u B) (hl : A.length + B.length ≤ 1000000) (hb : base ≤ w.heap.size) (ty : TypeId) :
    ∃ v' w', (Builtin.append_ #[22, 22] ty #[v, u]).run Try.prog w = .ok v' w' ∧ Own w' base v' (A ++ B) ∧ Kept (fun k => base ≤ k) w w' := by
  obtain ⟨i5, hi5, hz5, hs5, hb5⟩ := info_parts Try.info5
  obtain ⟨ho, hA⟩ := ho
  have hB := hs.lt
  have hAB : ∀ x ∈ A ++ B, x < 256 := fun x hx => by
    rcases List.mem_append.1 hx with h | h
    · exact hA x h
    · exact hB x h
  obtain ⟨bo, cap, rfl, hcap, _, hsrc, hnil⟩ := hs
  cases bo with
  | none =>
    obtain rfl : cap = 0 := hnil rfl
    obtain rfl : B = [] := List.eq_nil_of_length_eq_zero (by omega)
    have h := run_append_owned_none (P := Try.prog) (w := w) base 22 ty 5 i5 1 Try.underlying22 hi5 v A.length (BV A) ho
    refine ⟨_, _, h, ⟨by simpa using ho, hAB⟩, Kept.refl _ _⟩
  | some a =>
    have hn : ∀ j u, (BV B)[j]? = some u → w.cell? (a.add j) = some u := by
      intro j u hj
      by_cases h0 : 0 < B.length
      · obtain ⟨sb, so, he, hc⟩ := hsrc h0
        cases he
        rw [addr_add]
        exact hc j u hj
      · obtain rfl : B = [] := List.eq_nil_of_length_eq_zero (by omega)
        simp [BV] at hj
    obtain ⟨v', w', hr, h2, h3, _⟩ := run_append_own (P := Try.prog) w base 22 ty 5 i5 _ 1 1 Try.underlying22 hi5 hz5 hs5 hb5 rfl (by decide) v A.length (BV A) ho a B.length cap (BV B) (by simp [BV]) hn (BV_one B) (by unfold maxLen; omega) (by omega) hb
    refine ⟨v', w', hr, ⟨by simpa [BV_append] using h2, hAB⟩, ?_⟩
    have hk := Kept.of_grown h3
    refine hk.mono ?_
    intro i _ hi
    exact (ho.lt i hi).1

set_option maxHeartbeats 1000000 in
theorem equal_at (w : World) (u v : Value) (A B : List Nat) (hu : Src w u A) (hv : Src w v B) :
    Calls Try.prog 17 #[u, v] w fun e w' => e = .returned (.bool (decide (A = B))) ∧ w = w' := by
  have HU := hide hu
  have HV := hide hv
  have HI : Hid (decide (strN A = strN B) = decide (A = B)) := hide (by rw [decide_eq_decide]; exact strN_iff hu.lt hv.lt)
  clear hu hv
  go_enter Try.func17, Try.ntmps17
  go_wp2_with (with_reducible refine stop_convert 22 9 ?_)
  refine hide ?_
  refine wpList_run rfl (r_strS (v := u) (B := A) rfl HU.out) ?_
  go_wp2_with (with_reducible refine stop_convert 22 9 ?_)
  refine hide ?_
  refine wpList_run rfl (r_strS (v := v) (B := B) rfl HV.out) ?_
  refine wpList_run rfl (r_eql9 (p := strN A) (q := strN B) rfl rfl) ?_
  rw [HI.out]
  go_wp2
  go_ret
  exact ⟨rfl, rfl⟩

set_option maxHeartbeats 1000000 in
theorem four_at (w : World) (v : Nat) (hv : v < 4294967296) :
    Calls Try.prog 16 #[.int .u32 v] w fun e w' => e = .returned (.string (strN (fourN v))) ∧ Kept (fun _ => False) w w' := by
  have HF : Hid (BV (fourN v) = [.int .u8 ((v : Int) % 256), .int .u8 ((v : Int) / 256 % 256), .int .u8 ((v : Int) / 65536 % 256), .int .u8 ((v : Int) / 16777216)]) := hide (by simp [BV, fourN]; omega)
  go_enter Try.func16, Try.ntmps16
  go_wp2_with (with_reducible refine stop_bs 22 ?_)
  refine hide ?_
  refine wpList_run rfl (r_bs22 (fourN v) rfl (by simp [fourN]) ?_) ?_
  · rw [HF.out]
    rfl
  have hb := Blk.new w (BV (fourN v)) 5
  have hk := Kept.alloc (fun _ => False) w (.cells (BV (fourN v)).toArray 5)
  have HS := hide (hb.src (cap := 4) (B := fourN v) (List.take_of_length_le (by simp [BV])) (fourN_lt v) (by simp [fourN]))
  generalize w.alloc (.cells (BV (fourN v)).toArray 5) = w1 at *
  clear hb HF
  refine wpList_run rfl (r_strS (B := fourN v) rfl HS.out) ?_
  go_wp2
  go_ret
  exact ⟨rfl, hk⟩

end Go.Proofs.Yteacfkbchgjcbaa
