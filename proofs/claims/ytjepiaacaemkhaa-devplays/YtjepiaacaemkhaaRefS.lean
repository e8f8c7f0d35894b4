/-
  The reference's strings: bytes as a string, cut and joined; the small functions of the reference.
-/
import Derived.Test.YtjepiaacaemkhaaKeepsX
namespace Go.Proofs.Ytjepiaacaemkhaa
open Go.RowKit Go.Shelf
set_option linter.unusedSimpArgs false
set_option linter.unusedVariables false

theorem strV_size (M : List Value) : (strV M).size = M.length := by simp [strV, strOfNums_size]
theorem strV_data (M : List Value) : (strV M).data = (M.map (fun v => UInt8.ofNat (numOf v).toNat)).toArray := by
  simp [strV, strOfNums, Function.comp_def]
theorem ba_ext {a b : ByteArray} (h : a.data.toList = b.data.toList) : a = b := by
  cases a; cases b
  simp at h
  rw [h]
theorem strV_append (A B : List Value) : strV A ++ strV B = strV (A ++ B) := by
  apply ba_ext
  simp [ByteArray.data_append, strV_data]
theorem strV_extract (M : List Value) (l h : Nat) : (strV M).extract l h = strV ((M.take h).drop l) := by
  apply ba_ext
  simp [ByteArray.data_extract, strV_data, List.map_take, List.map_drop, List.drop_take]

section
variable {ρ : Operand → Value} {w : World} {dst : Option Tmp} {ty : TypeId} {pos : String} {aft : Array Edge} {gd : Option (Nat × Bool)}
theorem r_sliceS_hi {x hi : Operand} {M : List Value} {h : Nat} {k : IntKind} (hx : ρ x = .string (strV M)) (hh : ρ hi = .int k h) (hl : h ≤ M.length) :
    (execOp ρ ⟨dst, .slice 9 x none (some hi) none, ty, pos, aft, gd⟩).run Try.prog w = .ok (.value (.string (strV (M.take h)))) w := by
  have hs : h ≤ (strV M).size := by rw [strV_size]; exact hl
  have he : (strV M).extract 0 h = strV (M.take h) := by rw [strV_extract]; simp
  simp [execOp, Instr.sliceAt, run_underlying Try.underlying9, Instr.slice, hx, hh, Instr.sliceBounds, Instr.sliceBound, asIntOf, hs, he]
theorem r_sliceS_lo {x lo : Operand} {M : List Value} {l : Nat} {k : IntKind} (hx : ρ x = .string (strV M)) (hh : ρ lo = .int k l) (hl : l ≤ M.length) :
    (execOp ρ ⟨dst, .slice 9 x (some lo) none none, ty, pos, aft, gd⟩).run Try.prog w = .ok (.value (.string (strV (M.drop l)))) w := by
  have hs : l ≤ (strV M).size := by rw [strV_size]; exact hl
  have he : (strV M).extract l (strV M).size = strV (M.drop l) := by rw [strV_extract, strV_size, List.take_length]
  simp [execOp, Instr.sliceAt, run_underlying Try.underlying9, Instr.slice, hx, hh, Instr.sliceBounds, Instr.sliceBound, asIntOf, hs, he]
theorem r_sliceS2 {x lo hi : Operand} {M : List Value} {l h : Nat} {k1 k2 : IntKind} (hx : ρ x = .string (strV M)) (hlo : ρ lo = .int k1 l) (hh : ρ hi = .int k2 h) (hlh : l ≤ h) (hl : h ≤ M.length) :
    (execOp ρ ⟨dst, .slice 9 x (some lo) (some hi) none, ty, pos, aft, gd⟩).run Try.prog w = .ok (.value (.string (strV ((M.take h).drop l)))) w := by
  have hs : h ≤ (strV M).size := by rw [strV_size]; exact hl
  have he : (strV M).extract l h = strV ((M.take h).drop l) := strV_extract M l h
  simp [execOp, Instr.sliceAt, run_underlying Try.underlying9, Instr.slice, hx, hlo, hh, Instr.sliceBounds, Instr.sliceBound, asIntOf, hs, hlh, he]
theorem r_addS {x y : Operand} {A B : List Value} (hx : ρ x = .string (strV A)) (hy : ρ y = .string (strV B)) (hl : A.length + B.length ≤ 9223372036854775807) :
    (execOp ρ ⟨dst, .binOp .add 9 x y 9, ty, pos, aft, gd⟩).run Try.prog w = .ok (.value (.string (strV (A ++ B)))) w := by
  have h := run_string_add_sum (P := Try.prog) w (strV A) (strV B) (by rw [strV_size, strV_size]; exact hl)
  rw [strV_append] at h
  have hn : ¬ (9223372036854775807 < (strV A).size + (strV B).size) := by rw [strV_size, strV_size]; omega
  have ha := strV_append A B
  go_simp
end

theorem abs3 {p : Act → Prop} {a : Act} (i0 i1 i2 n : Nat) {v0 v1 v2 : Value} {ds : List Deferred} (h0 : a.eval (.tmp i0) = v0) (h1 : a.eval (.tmp i1) = v1) (h2 : a.eval (.tmp i2) = v2) (hs : a.tmps.size = n) (hd : a.defers = ds)
    (h : ∀ a' : Act, a'.eval (.tmp i0) = v0 → a'.eval (.tmp i1) = v1 → a'.eval (.tmp i2) = v2 → a'.tmps.size = n → a'.defers = ds → p a') : p a := h a h0 h1 h2 hs hd
theorem r_mul64' {ρ : Operand → Value} {w : World} {dst : Option Tmp} {ty : TypeId} {pos : String} {aft : Array Edge} {gd : Option (Nat × Bool)} {x y : Operand} {i : Nat} (hx : ρ x = .int .i64 64) (hy : ρ y = .int .i64 i) (h : i ≤ 1000000) : (execOp ρ ⟨dst, .binOp .mul 3 x y 3, ty, pos, aft, gd⟩).run Try.prog w = .ok (.value (.int .i64 ((64 * i : Nat) : Int))) w := by
  have hw : IntKind.i64.wrap (64 * (i : Int)) = ((64 * i : Nat) : Int) := by rw [IntKind.wrap_i64]; omega
  go_simp

theorem put_eq (st M : List Value) (o : Nat) (h : M.length = 64) : st.take o ++ M ++ st.drop (o + 64) = put st o M := by
  unfold put; rw [h]

set_option maxRecDepth 100000 in
set_option maxHeartbeats 2000000 in
theorem laid_any (w : World) (st M : List Value) (p : Nat) (hM : M.length = 64) (hp : 64 * p + 64 ≤ st.length) (hl : st.length ≤ 1000000) :
    Calls Try.prog 35 #[.string (strV st), .int .i64 p, .string (strV M)] w fun e w' => e = .returned (.string (strV (put st (64 * p) M))) ∧ Kept (fun _ => False) w w' ∧ w'.heap.size = w.heap.size := by
  go_enter Try.func35, Try.ntmps35
  go_wp2_with fail
  refine abs3 (p := fun a => Code.wp Try.prog _ _ a _) 0 1 2 19 (v0 := .string (strV st)) (v1 := .int .i64 p) (v2 := .string (strV M)) rfl rfl rfl rfl rfl ?_
  intro a' e0 e1 e2 hts hdf
  refine region_held (S := fun _ => True) Try.mixed ?_
  intro w1 hk1 hheap
  refine tk 0 (v := .string (strV st)) rfl (by kernel_rfl) (by kernel_rfl) (by kernel_rfl) (wanted_none rfl) (fun _ _ _ h => h) trivial (fun U hU => r_move (by simp [eval_put_ne, eval_put_eq, size_put, hts, e0])) ?_
  refine tk 1 (v := .int .i64 p) rfl (by kernel_rfl) (by kernel_rfl) (by kernel_rfl) (wanted_none rfl) (fun _ _ _ h => h) trivial (fun U hU => r_move (by simp [eval_put_ne, eval_put_eq, size_put, hts, e1])) ?_
  refine tk 2 (v := .int .i64 ((64 * p : Nat) : Int)) rfl (by kernel_rfl) (by kernel_rfl) (by kernel_rfl) (wanted_none rfl) (fun _ _ _ h => h) trivial (fun U hU => r_mul64' (i := p) rfl (by simp [eval_put_ne, eval_put_eq, size_put, hts]) (by omega)) ?_
  refine tk 3 (v := .string (strV (st.take (64 * p)))) rfl (by kernel_rfl) (by kernel_rfl) (by kernel_rfl) (wanted_none rfl) (fun _ _ _ h => h) trivial (fun U hU => r_sliceS_hi (h := 64 * p) (k := .i64) (by simp [eval_put_ne, eval_put_eq, size_put, hts]) (by simp [eval_put_ne, eval_put_eq, size_put, hts]) (by omega)) ?_
  refine tk 4 (v := .string (strV M)) rfl (by kernel_rfl) (by kernel_rfl) (by kernel_rfl) (wanted_none rfl) (fun _ _ _ h => h) trivial (fun U hU => r_move (by simp [eval_put_ne, eval_put_eq, size_put, hts, e2])) ?_
  refine tk 5 (v := .string (strV (st.take (64 * p) ++ M))) rfl (by kernel_rfl) (by kernel_rfl) (by kernel_rfl) (wanted_none rfl) (fun _ _ _ h => h) trivial (fun U hU => r_addS (by simp [eval_put_ne, eval_put_eq, size_put, hts]) (by simp [eval_put_ne, eval_put_eq, size_put, hts]) (by simp; omega)) ?_
  refine tk 6 (v := .string (strV st)) rfl (by kernel_rfl) (by kernel_rfl) (by kernel_rfl) (wanted_none rfl) (fun _ _ _ h => h) trivial (fun U hU => r_move (by simp [eval_put_ne, eval_put_eq, size_put, hts, e0])) ?_
  refine tk 7 (v := .int .i64 p) rfl (by kernel_rfl) (by kernel_rfl) (by kernel_rfl) (wanted_none rfl) (fun _ _ _ h => h) trivial (fun U hU => r_move (by simp [eval_put_ne, eval_put_eq, size_put, hts, e1])) ?_
  refine tk 8 (v := .int .i64 ((64 * p : Nat) : Int)) rfl (by kernel_rfl) (by kernel_rfl) (by kernel_rfl) (wanted_none rfl) (fun _ _ _ h => h) trivial (fun U hU => r_mul64' (i := p) rfl (by simp [eval_put_ne, eval_put_eq, size_put, hts]) (by omega)) ?_
  refine tk 9 (v := .int .i64 ((64 * p + 64 : Nat) : Int)) rfl (by kernel_rfl) (by kernel_rfl) (by kernel_rfl) (wanted_none rfl) (fun _ _ _ h => h) trivial (fun U hU => r_add (i := 64 * p) (j := 64) (by simp [eval_put_ne, eval_put_eq, size_put, hts]) rfl (by omega)) ?_
  refine tk 10 (v := .string (strV (st.drop (64 * p + 64)))) rfl (by kernel_rfl) (by kernel_rfl) (by kernel_rfl) (wanted_none rfl) (fun _ _ _ h => h) trivial (fun U hU => r_sliceS_lo (l := 64 * p + 64) (k := .i64) (by simp [eval_put_ne, eval_put_eq, size_put, hts]) (by simp [eval_put_ne, eval_put_eq, size_put, hts]) (by omega)) ?_
  refine tk 11 (v := .string (strV (st.take (64 * p) ++ M ++ st.drop (64 * p + 64)))) rfl (by kernel_rfl) (by kernel_rfl) (by kernel_rfl) (wanted_none rfl) (fun _ _ _ h => h) trivial (fun U hU => r_addS (by simp [eval_put_ne, eval_put_eq, size_put, hts]) (by simp [eval_put_ne, eval_put_eq, size_put, hts]) (by simp; omega)) ?_
  refine tk 12 (v := .string (strV (st.take (64 * p) ++ M ++ st.drop (64 * p + 64)))) rfl (by kernel_rfl) (by kernel_rfl) (by kernel_rfl) (wanted_none rfl) (fun _ _ _ h => h) trivial (fun U hU => r_assign (by simp [eval_put_ne, eval_put_eq, size_put, hts])) ?_
  refine wpAnyH_done (by kernel_rfl) ?_ _
  refine abs1 (p := fun a => Exit.then _ _ .normal a _) 6 19 (v := .string (strV (put st (64 * p) M))) (ds := []) (by simp [eval_put_ne, eval_put_eq, size_put, hts, put_eq st M (64 * p) hM]) (by simp [size_put, hts]) (by simp [put_defers, hdf]) ?_
  intro a6 e6 ht6 hd6
  go_wp2
  refine bodyPost_ret (v := .string (strV (put st (64 * p) M))) ?_ hd6 ⟨rfl, hk1, by rw [hheap]⟩
  rw [results_tmp (t := 6) rfl]
  exact congrArg (fun v => Result.ok v _) e6

end Go.Proofs.Ytjepiaacaemkhaa
