/-
  The types of the translation that the walks of package pack meet, as closed facts; bytes in memory; the run of single operations.
-/
import Derived.Test.YtclfklcboigifaaRows
import Derived.Test.YtclfklcboigifaaReg
import Derived.Test.YtclfklcboigifaaPMath
import Derived.Laws.BitsAllLaws
import Derived.Laws.StructEq
import Derived.Shelf.Abstract
namespace Go.Proofs.Ytclfklcboigifaa
open Go.RowKit Go.Shelf
set_option linter.unusedSimpArgs false
set_option linter.unusedVariables false
set_option maxRecDepth 100000

theorem Try.info5 : (Try.prog.info? 5).map (fun i => (i.zero, i.size, i.bytes)) = some (some (.int .u8 0), 1, 1) := by kernel_rfl
theorem Try.mixed : Try.prog.follows .mixedOrders = true := by kernel_rfl

/-- Bytes as values. -/
def BV (B : List Nat) : List Value := B.map fun n : Nat => .int .u8 (n : Int)
theorem BV_length (B : List Nat) : (BV B).length = B.length := by simp [BV]
theorem BV_one (B : List Nat) : ∀ v ∈ BV B, v.oneCell' = true := by
  intro v hv
  simp [BV] at hv
  obtain ⟨n, _, rfl⟩ := hv
  rfl
theorem BV_get (B : List Nat) (i : Nat) (h : i < B.length) : (BV B)[i]? = some (.int .u8 (B[i] : Int)) := by simp [BV, h]
theorem BV_append (A B : List Nat) : BV (A ++ B) = BV A ++ BV B := by simp [BV]
theorem BV_take (B : List Nat) (n : Nat) : BV (B.take n) = (BV B).take n := by simp [BV]
theorem BV_drop (B : List Nat) (n : Nat) : BV (B.drop n) = (BV B).drop n := by simp [BV]

/-- v is a slice that holds the bytes B. -/
def Src (w : World) (v : Value) (B : List Nat) : Prop :=
  ∃ bo cap, v = .slice bo B.length cap ∧ B.length ≤ cap ∧ (∀ x ∈ B, x < 256) ∧ (0 < B.length → ∃ sb so, bo = some ⟨sb, so, none⟩ ∧ Cells w sb so (BV B)) ∧ (bo = none → cap = 0)
theorem Src.kept {w w' : World} {v : Value} {B : List Nat} (h : Src w v B) (hk : Kept (fun _ => False) w w') : Src w' v B := by
  obtain ⟨bo, cap, rfl, h1, h2, h3, h4⟩ := h
  exact ⟨bo, cap, rfl, h1, h2, fun h => by obtain ⟨sb, so, e, hc⟩ := h3 h; exact ⟨sb, so, e, hk.cells hc (fun h => h)⟩, h4⟩
theorem Src.lt {w : World} {v : Value} {B : List Nat} (h : Src w v B) : ∀ x ∈ B, x < 256 := by
  obtain ⟨bo, cap, rfl, _, h2, _⟩ := h
  exact h2
theorem Src.nil (w : World) : Src w (.slice none 0 0) [] := ⟨none, 0, rfl, Nat.le_refl _, by simp, fun h => absurd h (by simp), fun _ => rfl⟩
/-- Bytes never lie in a block none of whose cells is a byte. -/
theorem Src.keptBut {w w' : World} {v : Value} {B : List Nat} {S : Nat → Prop} (h : Src w v B) (hk : Kept S w w') (hS : ∀ k, S k → ∀ i n, w.cell? ⟨k, i, none⟩ ≠ some (.int .u8 n)) : Src w' v B := by
  obtain ⟨bo, cap, rfl, h1, h2, h3, h4⟩ := h
  refine ⟨bo, cap, rfl, h1, h2, fun h => ?_, h4⟩
  obtain ⟨sb, so, e, hc⟩ := h3 h
  refine ⟨sb, so, e, hk.cells hc (fun hs => ?_)⟩
  exact hS sb hs _ _ (hc 0 _ (BV_get B 0 h))

def strN (B : List Nat) : ByteArray := strOfNums (B.map fun n : Nat => (n : Int))
theorem strN_data (B : List Nat) : (strN B).data = (B.map UInt8.ofNat).toArray := by simp [strN, strOfNums]
theorem strN_size (B : List Nat) : (strN B).size = B.length := by simp [ByteArray.size, strN_data]
theorem strN_nil : strN [] = ⟨#[]⟩ := rfl
theorem strN_append (A B : List Nat) : strN A ++ strN B = strN (A ++ B) := by
  apply ByteArray.ext
  simp [ByteArray.data_append, strN_data]
theorem strN_inj {A B : List Nat} (hA : ∀ x ∈ A, x < 256) (hB : ∀ x ∈ B, x < 256) (h : strN A = strN B) : A = B := by
  have h1 : A.map UInt8.ofNat = B.map UInt8.ofNat := by
    have := congrArg ByteArray.data h
    rw [strN_data, strN_data] at this
    simpa using this
  have hl : A.length = B.length := by have := congrArg List.length h1; simpa using this
  apply List.ext_getElem hl
  intro i ha hb
  have := congrArg (fun l => l[i]?) h1
  simp [ha, hb] at this
  have e := congrArg UInt8.toNat this
  simp at e
  have := hA _ (List.getElem_mem ha)
  have := hB _ (List.getElem_mem hb)
  omega
theorem strN_iff {A B : List Nat} (hA : ∀ x ∈ A, x < 256) (hB : ∀ x ∈ B, x < 256) : (strN A = strN B) ↔ A = B := ⟨strN_inj hA hB, fun h => by rw [h]⟩
theorem strN_extract (A : List Nat) (l h : Nat) : (strN A).extract l h = strN ((A.take h).drop l) := by
  apply ByteArray.ext
  rw [ByteArray.data_extract, strN_data, strN_data]
  simp [List.extract_eq_take_drop, List.drop_take]
theorem strN_toList (B : List Nat) : (strN B).toList = B.map UInt8.ofNat := by rw [ByteArray.toList_eq, strN_data]
theorem less_lex : ∀ (A B : List Nat), (∀ x ∈ A, x < 256) → (∀ x ∈ B, x < 256) → Op.bytesLess (A.map UInt8.ofNat) (B.map UInt8.ofNat) = lexN A B
  | [], [], _, _ => rfl
  | [], _ :: _, _, _ => rfl
  | _ :: _, [], _, _ => rfl
  | x :: A, y :: B, hA, hB => by
    have ih := less_lex A B (fun z hz => hA z (by simp [hz])) (fun z hz => hB z (by simp [hz]))
    have hx := hA x (by simp)
    have hy := hB y (by simp)
    have h1 : (UInt8.ofNat x < UInt8.ofNat y) ↔ x < y := by rw [UInt8.lt_iff_toNat_lt]; simp [Nat.mod_eq_of_lt hx, Nat.mod_eq_of_lt hy]
    have h2 : (UInt8.ofNat x = UInt8.ofNat y) ↔ x = y := ⟨fun h => by
      have := congrArg UInt8.toNat h
      simpa [Nat.mod_eq_of_lt hx, Nat.mod_eq_of_lt hy] using this, fun h => by rw [h]⟩
    simp only [List.map_cons, Op.bytesLess, lexN, ih]
    by_cases a : x < y
    · simp [h1.2 a, a]
    · by_cases b : y < x
      · have : ¬ x = y := by omega
        simp [h1, h2, a, b, this]
      · obtain rfl : x = y := by omega
        simp

section
variable {ρ : Operand → Value} {w : World} {dst : Option Tmp} {ty : TypeId} {pos : String} {aft : Array Edge} {gd : Option (Nat × Bool)} {x y z : Operand}
theorem r_move {v : Value} (hx : ρ x = v) : (execOp ρ ⟨dst, .move x, ty, pos, aft, gd⟩).run Try.prog w = .ok (.value v) w := by
  go_simp
theorem r_assign {v : Value} (hx : ρ x = v) : (execOp ρ ⟨dst, .assign x, ty, pos, aft, gd⟩).run Try.prog w = .ok (.value v) w := by
  go_simp
theorem r_pick {v : Value} (hx : ρ x = .bool true) (hy : ρ y = v) : (execOp ρ ⟨dst, .pick x y z, ty, pos, aft, gd⟩).run Try.prog w = .ok (.value v) w := by
  go_simp
theorem r_pickF {v : Value} (hx : ρ x = .bool false) (hz : ρ z = v) : (execOp ρ ⟨dst, .pick x y z, ty, pos, aft, gd⟩).run Try.prog w = .ok (.value v) w := by
  go_simp
theorem r_not {b : Bool} (hx : ρ x = .bool b) : (execOp ρ ⟨dst, .unOp .not 4 x, ty, pos, aft, gd⟩).run Try.prog w = .ok (.value (.bool (!b))) w := by
  go_simp
theorem r_eql4 {p q : Bool} (hx : ρ x = .bool p) (hy : ρ y = .bool q) : (execOp ρ ⟨dst, .binOp .eql 4 x y 4, ty, pos, aft, gd⟩).run Try.prog w = .ok (.value (.bool (p == q))) w := by
  go_simp
theorem r_neq4 {p q : Bool} (hx : ρ x = .bool p) (hy : ρ y = .bool q) : (execOp ρ ⟨dst, .binOp .neq 4 x y 4, ty, pos, aft, gd⟩).run Try.prog w = .ok (.value (.bool (p != q))) w := by
  go_simp
  cases p <;> cases q <;> rfl
theorem r_eql9 {p q : ByteArray} (hx : ρ x = .string p) (hy : ρ y = .string q) : (execOp ρ ⟨dst, .binOp .eql 9 x y 9, ty, pos, aft, gd⟩).run Try.prog w = .ok (.value (.bool (decide (p = q)))) w := by
  go_simp
  rw [ByteArray.toList_eq, ByteArray.toList_eq, Bool.eq_iff_iff]
  simp only [beq_iff_eq, decide_eq_true_eq]
  exact ⟨fun h => ByteArray.ext (Array.toList_inj.1 h), fun h => by rw [h]⟩
theorem r_neq9 {p q : ByteArray} (hx : ρ x = .string p) (hy : ρ y = .string q) : (execOp ρ ⟨dst, .binOp .neq 9 x y 9, ty, pos, aft, gd⟩).run Try.prog w = .ok (.value (.bool (decide (p ≠ q)))) w := by
  go_simp
  rw [ByteArray.toList_eq, ByteArray.toList_eq]
  by_cases h : p = q
  · simp [h]
  · have : ¬ p.data = q.data := fun e => h (ByteArray.ext e)
    simp [h, this]
theorem r_lss9 {A B : List Nat} (hA : ∀ x ∈ A, x < 256) (hB : ∀ x ∈ B, x < 256) (hx : ρ x = .string (strN A)) (hy : ρ y = .string (strN B)) : (execOp ρ ⟨dst, .binOp .lss 9 x y 9, ty, pos, aft, gd⟩).run Try.prog w = .ok (.value (.bool (lexN A B))) w := by
  go_simp
  rw [strN_toList, strN_toList, less_lex A B hA hB]
theorem r_add9 {A B : List Nat} (hl : A.length + B.length ≤ 9223372036854775807) (hx : ρ x = .string (strN A)) (hy : ρ y = .string (strN B)) : (execOp ρ ⟨dst, .binOp .add 9 x y 9, ty, pos, aft, gd⟩).run Try.prog w = .ok (.value (.string (strN (A ++ B)))) w := by
  have h := run_string_add_sum (P := Try.prog) w (strN A) (strN B) (by rw [strN_size, strN_size]; exact hl)
  rw [strN_append] at h
  simp [execOp, eqGuard, binOp, hx, hy, h]
theorem r_eql3 {p q : Int} (hx : ρ x = .int .i64 p) (hy : ρ y = .int .i64 q) : (execOp ρ ⟨dst, .binOp .eql 3 x y 3, ty, pos, aft, gd⟩).run Try.prog w = .ok (.value (.bool (decide (p = q)))) w := by
  go_simp
  rw [Bool.eq_iff_iff]; simp
theorem r_neq3 {p q : Int} (hx : ρ x = .int .i64 p) (hy : ρ y = .int .i64 q) : (execOp ρ ⟨dst, .binOp .neq 3 x y 3, ty, pos, aft, gd⟩).run Try.prog w = .ok (.value (.bool (decide (p ≠ q)))) w := by
  go_simp
  rw [Bool.eq_iff_iff]; simp
theorem r_len25 {ao : Option Addr} {l c : Nat} (hx : ρ x = .slice ao l c) : (execOp ρ ⟨dst, .call { callee := .builtin .len, args := #[x], argTypes := #[40] }, ty, pos, aft, gd⟩).run Try.prog w = .ok (.value (.int .i64 l)) w := by
  go_simp
theorem r_len9 {B : List Nat} (hx : ρ x = .string (strN B)) : (execOp ρ ⟨dst, .call { callee := .builtin .len, args := #[x], argTypes := #[9] }, ty, pos, aft, gd⟩).run Try.prog w = .ok (.value (.int .i64 B.length)) w := by
  go_simp
  rw [strN_size]
theorem r_call1 {f : FuncId} {v : Value} {t : TypeId} {fn : Func} {c : Code} (hf : Try.prog.funcs[f]? = some fn) (hn : (fn.name == "runtime.NumGoroutine") = false) (hb : fn.body = some c) (hfv : ρ (.func f) = .func (.func f) #[] #[]) (hx : ρ x = v) :
    (execOp ρ ⟨dst, .call { callee := .value (.func f), args := #[x], argTypes := #[t] }, ty, pos, aft, gd⟩).run Try.prog w = .ok (.enter f #[v]) w := by
  have h := enters_of hf hn hb #[v] w
  simp [execOp, resolve, hfv, hx, Deferred.ofValue, invoke, h]
theorem r_call2 {f : FuncId} {u v : Value} {t s : TypeId} {fn : Func} {c : Code} (hf : Try.prog.funcs[f]? = some fn) (hn : (fn.name == "runtime.NumGoroutine") = false) (hb : fn.body = some c) (hfv : ρ (.func f) = .func (.func f) #[] #[]) (hx : ρ x = u) (hy : ρ y = v) :
    (execOp ρ ⟨dst, .call { callee := .value (.func f), args := #[x, y], argTypes := #[t, s] }, ty, pos, aft, gd⟩).run Try.prog w = .ok (.enter f #[u, v]) w := by
  have h := enters_of hf hn hb #[u, v] w
  simp [execOp, resolve, hfv, hx, hy, Deferred.ofValue, invoke, h]
theorem run_strS {v : Value} {B : List Nat} (hs : Src w v B) : (convert 40 9 v).run Try.prog w = .ok (.string (strN B)) w := by
  obtain ⟨bo, cap, rfl, hcap, hB, hsrc, hnil⟩ := hs
  by_cases h0 : B.length = 0
  · obtain rfl : B = [] := List.eq_nil_of_length_eq_zero h0
    have h := run_convert_bytes_string (P := Try.prog) w 40 9 5 bo 0 cap Try.underlying40 Try.underlying5 Try.underlying9
    have h2 : (Conv.bytesToString (.slice bo 0 cap)).run Try.prog w = .ok (.string (strN [])) w := by
      cases bo <;> simp [Conv.bytesToString, strN, strOfNums, Builtin.firstCells, loadCells] <;> rfl
    simpa using h.trans h2
  · obtain ⟨sb, so, rfl, hc⟩ := hsrc (by omega)
    exact run_convert_bytes_arg (P := Try.prog) w 40 5 Try.underlying40 Try.underlying5 sb so B.length cap (B.map fun n : Nat => (n : Int)) (by simp) (fun i hi => by
      have h1 := hc i _ (BV_get B i hi)
      rw [h1]
      simp [List.getD, hi]) 9 Try.underlying9
theorem r_strS {v : Value} {B : List Nat} (hx : ρ x = v) (hs : Src w v B) :
    (execOp ρ ⟨dst, .convert 40 9 x, ty, pos, aft, gd⟩).run Try.prog w = .ok (.value (.string (strN B))) w := by
  simp [execOp, hx, run_strS hs]
theorem r_bs25 (M : List Nat) {n : Nat} {es : Array (Nat × Operand)} (hn : n = M.length) (hbig : M.length ≤ 16777216) (hes : es.toList.map (fun p => (p.1, ρ p.2)) = ((BV M).zipIdx 0).map fun p => (p.2, p.1)) :
    (execOp ρ ⟨dst, .buildSlice 40 n es, ty, pos, aft, gd⟩).run Try.prog w = .ok (.value (.slice (some ⟨w.heap.size, 0, none⟩) n n)) (w.alloc (.cells (BV M).toArray 5)) := by
  obtain ⟨i5, hi5, hz5, hs5, hb5⟩ := info_parts Try.info5
  exact run_bs1 Try.underlying40 hi5 hz5 hs5 (BV M) (by rw [BV_length, hn]) (by rw [BV_length]; exact hbig) (fun v hv => by
    simp [BV] at hv
    obtain ⟨k, _, rfl⟩ := hv
    rfl) hes
theorem r_append25 {u v v' : Value} {w' : World} (hx : ρ x = u) (hy : ρ y = v) (h : (Builtin.append_ #[40, 40] ty #[u, v]).run Try.prog w = .ok v' w') :
    (execOp ρ ⟨dst, .call { callee := .builtin .append, args := #[x, y], argTypes := #[40, 40] }, ty, pos, aft, gd⟩).run Try.prog w = .ok (.value v') w' := by
  simp [execOp, resolve, invoke, builtin, hx, hy, h]
theorem r_appendZ {u v v' : Value} {w' : World} (hx : ρ x = u) (hy : ρ y = v) (h : (Builtin.append_ #[40, 3] ty #[u, v]).run Try.prog w = .ok v' w') :
    (execOp ρ ⟨dst, .call { callee := .builtin .append, args := #[x, y], argTypes := #[40, 3] }, ty, pos, aft, gd⟩).run Try.prog w = .ok (.value v') w' := by
  simp [execOp, resolve, invoke, builtin, hx, hy, h]
theorem r_shr64 {tb : TypeId} {p j : Nat} {k : IntKind} (hp : p < 9223372036854775808) (hx : ρ x = .int .i64 p) (hy : ρ y = .int k j) :
    (execOp ρ ⟨dst, .binOp .shr 3 x y tb, ty, pos, aft, gd⟩).run Try.prog w = .ok (.value (.int .i64 ((p / 2 ^ j : Nat) : Int))) w := by
  have hn : ¬ ((j : Int) < 0) := by omega
  have e : p / 2 ^ min j 64 = p / 2 ^ j := by
    by_cases h : j ≤ 64
    · rw [Nat.min_eq_left h]
    · rw [Nat.min_eq_right (by omega), Nat.div_eq_of_lt (by omega), Nat.div_eq_of_lt]
      exact Nat.lt_of_lt_of_le (by omega : p < 2 ^ 64) (Nat.pow_le_pow_right (by decide) (by omega))
  have hm : min ((j : Int).toNat) IntKind.i64.bits = min j 64 := by simp [IntKind.bits]
  have e2 : (p : Int).fdiv (2 ^ min j IntKind.i64.bits) = (p : Int) / 2 ^ j := by
    rw [Int.fdiv_eq_ediv_of_nonneg _ (Int.pow_nonneg (by decide)), show IntKind.i64.bits = 64 from rfl]
    have := congrArg (fun n : Nat => (n : Int)) e
    push_cast at this
    exact this
  simp [execOp, eqGuard, binOp, Op.shift, hx, hy, hn]
  exact e2
end

end Go.Proofs.Ytclfklcboigifaa
