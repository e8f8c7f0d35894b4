/-
  Bytes as strings; bytes.Equal; the reference's Four; copying and appending bytes.
-/
import Derived.Test.YtapoagpkjngjpaaMark
namespace Go.Proofs.Ytapoagpkjngjpaa
open Go.RowKit Go.Shelf
set_option linter.unusedSimpArgs false
set_option linter.unusedVariables false
set_option maxRecDepth 100000

section
variable {ρ : Operand → Value} {w : World} {dst : Option Tmp} {ty : TypeId} {pos : String} {aft : Array Edge} {gd : Option (Nat × Bool)} {x y z : Operand}
theorem r_bs22 (M : List Nat) {n : Nat} {es : Array (Nat × Operand)} (hn : n = M.length) (hbig : M.length ≤ 16777216) (hes : es.toList.map (fun p => (p.1, ρ p.2)) = ((BV M).zipIdx 0).map fun p => (p.2, p.1)) :
    (execOp ρ ⟨dst, .buildSlice 24 n es, ty, pos, aft, gd⟩).run Try.prog w = .ok (.value (.slice (some ⟨w.heap.size, 0, none⟩) n n)) (w.alloc (.cells (BV M).toArray 5)) := by
  obtain ⟨i5, hi5, hz5, hs5, hb5⟩ := info_parts Try.info5
  exact run_bs1 Try.underlying24 hi5 hz5 hs5 (BV M) (by rw [BV_length, hn]) (by rw [BV_length]; exact hbig) (fun v hv => by
    simp [BV] at hv
    obtain ⟨k, _, rfl⟩ := hv
    rfl) hes
theorem r_append22 {u v v' : Value} {w' : World} (hx : ρ x = u) (hy : ρ y = v) (h : (Builtin.append_ #[24, 24] ty #[u, v]).run Try.prog w = .ok v' w') :
    (execOp ρ ⟨dst, .call { callee := .builtin .append, args := #[x, y], argTypes := #[24, 24] }, ty, pos, aft, gd⟩).run Try.prog w = .ok (.value v') w' := by
  simp [execOp, resolve, invoke, builtin, hx, hy, h]
theorem r_copy22 {u v v' : Value} {w' : World} (hx : ρ x = u) (hy : ρ y = v) (h : (Builtin.copy_ #[24, 24] ty #[u, v]).run Try.prog w = .ok v' w') :
    (execOp ρ ⟨dst, .call { callee := .builtin .copy, args := #[x, y], argTypes := #[24, 24] }, ty, pos, aft, gd⟩).run Try.prog w = .ok (.value v') w' := by
  simp [execOp, resolve, invoke, builtin, hx, hy, h]
end

theorem Own.new (w : World) : Own (w.alloc (.cells #[] 5)) w.heap.size (.slice (some ⟨w.heap.size, 0, none⟩) 0 0) [] :=
  ⟨World.ownsRow_made w #[] 0 (Nat.le_refl _) (Nat.zero_le _) rfl, by simp⟩
set_option maxHeartbeats 1000000 in
theorem equal_atc (w : World) (u v : Value) (A B : List Nat) (hu : Src w u A) (hv : Src w v B) :
    Calls Try.prog 65 #[u, v] w fun e w' => e = .returned (.bool (decide (A = B))) ∧ w = w' := by
  have HU := hide hu
  have HV := hide hv
  have HI : Hid (decide (strN A = strN B) = decide (A = B)) := hide (by rw [decide_eq_decide]; exact strN_iff hu.lt hv.lt)
  clear hu hv
  go_enter Try.func65, Try.ntmps65
  go_wp2_with (with_reducible refine stop_convert 24 9 ?_)
  refine hide ?_
  refine wpList_run rfl (r_strS (v := u) (B := A) rfl HU.out) ?_
  go_wp2_with (with_reducible refine stop_convert 24 9 ?_)
  refine hide ?_
  refine wpList_run rfl (r_strS (v := v) (B := B) rfl HV.out) ?_
  refine wpList_run rfl (r_eql9 (p := strN A) (q := strN B) rfl rfl) ?_
  rw [HI.out]
  go_wp2
  go_ret
  exact ⟨rfl, rfl⟩

set_option maxHeartbeats 1000000 in
theorem four_at (w : World) (v : Nat) (hv : v < 4294967296) :
    Calls Try.prog 60 #[.int .u32 v] w fun e w' => e = .returned (.string (strN (fourN v))) ∧ Kept (fun _ => False) w w' := by
  have HF : Hid (BV (fourN v) = [.int .u8 ((v : Int) % 256), .int .u8 ((v : Int) / 256 % 256), .int .u8 ((v : Int) / 65536 % 256), .int .u8 ((v : Int) / 16777216)]) := hide (by simp [BV, fourN]; omega)
  go_enter Try.func60, Try.ntmps60
  go_wp2_with (with_reducible refine stop_bs 24 ?_)
  refine hide ?_
  refine wpList_run rfl (r_bs22 (fourN v) rfl (by simp [fourN]) ?_) ?_
  · rw [HF.out]
    rfl
  have hb := Blk.new w (BV (fourN v)) 5
  have hk := Kept.alloc (fun _ => False) w (.cells (BV (fourN v)).toArray 5)
  have HS := hide (hb.src (cap := 4) (B := fourN v) (List.take_of_length_le (by simp [BV])) (fourN_lt v) (by simp [fourN]))
  generalize w.alloc (.cells (BV (fourN v)).toArray 5) = w1 at *
  clear hb HF
  refine wpList_run rfl (r_strS (B := fourN v) rfl HS.out) ?_
  go_wp2
  go_ret
  exact ⟨rfl, hk⟩

end Go.Proofs.Ytapoagpkjngjpaa
