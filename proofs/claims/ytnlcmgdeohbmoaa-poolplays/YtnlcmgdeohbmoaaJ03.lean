/-
  The types of the translation that the walks of package pack meet, as closed facts; bytes in memory; the run of single operations.
-/
import Derived.Test.YtnlcmgdeohbmoaaRows
import Derived.Test.YtnlcmgdeohbmoaaJ02
import Derived.Laws.BitsAllLaws
import Derived.Laws.StructEq
import Derived.Shelf.Abstract
import Derived.Maps.AppendAt
namespace Go.Proofs.Ytnlcmgdeohbmoaa
open Go.RowKit Go.Shelf
set_option linter.unusedSimpArgs false
set_option linter.unusedVariables false
set_option maxRecDepth 100000

theorem Try.info5 : (Try.prog.info? 5).map (fun i => (i.zero, i.size, i.bytes)) = some (some (.int .u8 0), 1, 1) := by kernel_rfl
theorem Try.mixed : Try.prog.follows .mixedOrders = true := by kernel_rfl

/-- Bytes as values. -/
def BV (B : List Nat) : List Value := B.map fun n : Nat => .int .u8 (n : Int)
theorem BV_length (B : List Nat) : (BV B).length = B.length := by simp [BV]
theorem BV_one (B : List Nat) : ∀ v ∈ BV B, v.oneCell' = true := by
  intro v hv
  simp [BV] at hv
  obtain ⟨n, _, rfl⟩ := hv
  rfl
theorem BV_get (B : List Nat) (i : Nat) (h : i < B.length) : (BV B)[i]? = some (.int .u8 (B[i] : Int)) := by simp [BV, h]
theorem BV_append (A B : List Nat) : BV (A ++ B) = BV A ++ BV B := by simp [BV]
theorem BV_take (B : List Nat) (n : Nat) : BV (B.take n) = (BV B).take n := by simp [BV]
theorem BV_drop (B : List Nat) (n : Nat) : BV (B.drop n) = (BV B).drop n := by simp [BV]

/-- v is a slice that holds the bytes B. -/
def Src (w : World) (v : Value) (B : List Nat) : Prop :=
  ∃ bo cap, v = .slice bo B.length cap ∧ B.length ≤ cap ∧ (∀ x ∈ B, x < 256) ∧ (0 < B.length → ∃ sb so, bo = some ⟨sb, so, none⟩ ∧ Cells w sb so (BV B)) ∧ (bo = none → cap = 0)
theorem Src.kept {w w' : World} {v : Value} {B : List Nat} (h : Src w v B) (hk : Kept (fun _ => False) w w') : Src w' v B := by
  obtain ⟨bo, cap, rfl, h1, h2, h3, h4⟩ := h
  exact ⟨bo, cap, rfl, h1, h2, fun h => by obtain ⟨sb, so, e, hc⟩ := h3 h; exact ⟨sb, so, e, hk.cells hc (fun h => h)⟩, h4⟩
theorem Src.lt {w : World} {v : Value} {B : List Nat} (h : Src w v B) : ∀ x ∈ B, x < 256 := by
  obtain ⟨bo, cap, rfl, _, h2, _⟩ := h
  exact h2
theorem Src.nil (w : World) : Src w (.slice none 0 0) [] := ⟨none, 0, rfl, Nat.le_refl _, by simp, fun h => absurd h (by simp), fun _ => rfl⟩
/-- Bytes never lie in a block none of whose cells is a byte. -/
theorem Src.keptBut {w w' : World} {v : Value} {B : List Nat} {S : Nat → Prop} (h : Src w v B) (hk : Kept S w w') (hS : ∀ k, S k → ∀ i n, w.cell? ⟨k, i, none⟩ ≠ some (.int .u8 n)) : Src w' v B := by
  obtain ⟨bo, cap, rfl, h1, h2, h3, h4⟩ := h
  refine ⟨bo, cap, rfl, h1, h2, fun h => ?_, h4⟩
  obtain ⟨sb, so, e, hc⟩ := h3 h
  refine ⟨sb, so, e, hk.cells hc (fun hs => ?_)⟩
  exact hS sb hs _ _ (hc 0 _ (BV_get B 0 h))

def strN (B : List Nat) : ByteArray := strOfNums (B.map fun n : Nat => (n : Int))
theorem strN_data (B : List Nat) : (strN B).data = (B.map UInt8.ofNat).toArray := by simp [strN, strOfNums]
theorem strN_size (B : List Nat) : (strN B).size = B.length := by simp [ByteArray.size, strN_data]
theorem strN_nil : strN [] = ⟨#[]⟩ := rfl
theorem strN_append (A B : List Nat) : strN A ++ strN B = strN (A ++ B) := by
  apply ByteArray.ext
  simp [ByteArray.data_append, strN_data]
theorem strN_inj {A B : List Nat} (hA : ∀ x ∈ A, x < 256) (hB : ∀ x ∈ B, x < 256) (h : strN A = strN B) : A = B := by
  have h1 : A.map UInt8.ofNat = B.map UInt8.ofNat := by
    have := congrArg ByteArray.data h
    rw [strN_data, strN_data] at this
    simpa using this
  have hl : A.length = B.length := by have := congrArg List.length h1; simpa using this
  apply List.ext_getElem hl
  intro i ha hb
  have := congrArg (fun l => l[i]?) h1
  simp [ha, hb] at this
  have e := congrArg UInt8.toNat this
  simp at e
  have := hA _ (List.getElem_mem ha)
  have := hB _ (List.getElem_mem hb)
  omega
theorem strN_iff {A B : List Nat} (hA : ∀ x ∈ A, x < 256) (hB : ∀ x ∈ B, x < 256) : (strN A = strN B) ↔ A = B := ⟨strN_inj hA hB, fun h => by rw [h]⟩
theorem strN_extract (A : List Nat) (l h : Nat) : (strN A).extract l h = strN ((A.take h).drop l) := by
  apply ByteArray.ext
  rw [ByteArray.data_extract, strN_data, strN_data]
  simp [List.extract_eq_take_drop, List.drop_take]
theorem strN_toList (B : List Nat) : (strN B).toList = B.map UInt8.ofNat := by rw [ByteArray.toList_eq, strN_data]
theorem less_lex : ∀ (A B : List Nat), (∀ x ∈ A, x < 256) → (∀ x ∈ B, x < 256) → Op.bytesLess (A.map UInt8.ofNat) (B.map UInt8.ofNat) = lexN A B
  | [], [], _, _ => rfl
  | [], _ :: _, _, _ => rfl
  | _ :: _, [], _, _ => rfl
  | x :: A, y :: B, hA, hB => by
    have ih := less_lex A B (fun z hz => hA z (by simp [hz])) (fun z hz => hB z (by simp [hz]))
    have hx := hA x (by simp)
    have hy := hB y (by simp)
    have h1 : (UInt8.ofNat x < UInt8.ofNat y) ↔ x < y := by rw [UInt8.lt_iff_toNat_lt]; simp [Nat.mod_eq_of_lt hx, Nat.mod_eq_of_lt hy]
    have h2 : (UInt8.ofNat x = UInt8.ofNat y) ↔ x = y := ⟨fun h => by
      have := congrArg UInt8.toNat h
      simpa [Nat.mod_eq_of_lt hx, Nat.mod_eq_of_lt hy] using this, fun h => by rw [h]⟩
    simp only [List.map_cons, Op.bytesLess, lexN, ih]
    by_cases a : x < y
    · simp [h1.2 a, a]
    · by_cases b : y < x
      · have : ¬ x = y := by omega
        simp [h1, h2, a, b, this]
      · obtain rfl : x = y := by omega
        simp

section
variable {ρ : Operand → Value} {w : World} {dst : Option Tmp} {ty : TypeId} {pos : String} {aft : Array Edge} {gd : Option (Nat × Bool)} {x y z : Operand}
theorem r_move {v : Value} (hx : ρ x = v) : (execOp ρ ⟨dst, .move x, ty, pos, aft, gd⟩).run Try.prog w = .ok (.value v) w := by
  go_simp
theorem r_assign {v : Value} (hx : ρ x = v) : (execOp ρ ⟨dst, .assign x, ty, pos, aft, gd⟩).run Try.prog w = .ok (.value v) w := by
  go_simp
theorem r_pick {v : Value} (hx : ρ x = .bool true) (hy : ρ y = v) : (execOp ρ ⟨dst, .pick x y z, ty, pos, aft, gd⟩).run Try.prog w = .ok (.value v) w := by
  go_simp
theorem r_pickF {v : Value} (hx : ρ x = .bool false) (hz : ρ z = v) : (execOp ρ ⟨dst, .pick x y z, ty, pos, aft, gd⟩).run Try.prog w = .ok (.value v) w := by
  go_simp
theorem r_not {b : Bool} (hx : ρ x = .bool b) : (execOp ρ ⟨dst, .unOp .not 4 x, ty, pos, aft, gd⟩).run Try.prog w = .ok (.value (.bool (!b))) w := by
  go_simp
theorem r_eql4 {p q : Bool} (hx : ρ x = .bool p) (hy : ρ y = .bool q) : (execOp ρ ⟨dst, .binOp .eql 4 x y 4, ty, pos, aft, gd⟩).run Try.prog w = .ok (.value (.bool (p == q))) w := by
  go_simp
theorem r_neq4 {p q : Bool} (hx : ρ x = .bool p) (hy : ρ y = .bool q) : (execOp ρ ⟨dst, .binOp .neq 4 x y 4, ty, pos, aft, gd⟩).run Try.prog w = .ok (.value (.bool (p != q))) w := by
  go_simp
  cases p <;> cases q <;> rfl
theorem r_eql9 {p q : ByteArray} (hx : ρ x = .string p) (hy : ρ y = .string q) : (execOp ρ ⟨dst, .binOp .eql 9 x y 9, ty, pos, aft, gd⟩).run Try.prog w = .ok (.value (.bool (decide (p = q)))) w := by
  go_simp
  rw [ByteArray.toList_eq, ByteArray.toList_eq, Bool.eq_iff_iff]
  simp only [beq_iff_eq, decide_eq_true_eq]
  exact ⟨fun h => ByteArray.ext (Array.toList_inj.1 h), fun h => by rw [h]⟩
theorem r_neq9 {p q : ByteArray} (hx : ρ x = .string p) (hy : ρ y = .string q) : (execOp ρ ⟨dst, .binOp .neq 9 x y 9, ty, pos, aft, gd⟩).run Try.prog w = .ok (.value (.bool (decide (p ≠ q)))) w := by
  go_simp
  rw [ByteArray.toList_eq, ByteArray.toList_eq]
  by_cases h : p = q
  · simp [h]
  · have : ¬ p.data = q.data := fun e => h (ByteArray.ext e)
    simp [h, this]
theorem r_lss9 {A B : List Nat} (hA : ∀ x ∈ A, x < 256) (hB : ∀ x ∈ B, x < 256) (hx : ρ x = .string (strN A)) (hy : ρ y = .string (strN B)) : (execOp ρ ⟨dst, .binOp .lss 9 x y 9, ty, pos, aft, gd⟩).run Try.prog w = .ok (.value (.bool (lexN A B))) w := by
  go_simp
  rw [strN_toList, strN_toList, less_lex A B hA hB]
theorem r_add9 {A B : List Nat} (hl : A.length + B.length ≤ 9223372036854775807) (hx : ρ x = .string (strN A)) (hy : ρ y = .string (strN B)) : (execOp ρ ⟨dst, .binOp .add 9 x y 9, ty, pos, aft, gd⟩).run Try.prog w = .ok (.value (.string (strN (A ++ B)))) w := by
  have h := run_string_add_sum (P := Try.prog) w (strN A) (strN B) (by rw [strN_size, strN_size]; exact hl)
  rw [strN_append] at h
  simp [execOp, eqGuard, binOp, hx, hy, h]
theorem r_eql3 {p q : Int} (hx : ρ x = .int .i64 p) (hy : ρ y = .int .i64 q) : (execOp ρ ⟨dst, .binOp .eql 3 x y 3, ty, pos, aft, gd⟩).run Try.prog w = .ok (.value (.bool (decide (p = q)))) w := by
  go_simp
  rw [Bool.eq_iff_iff]; simp
theorem r_neq3 {p q : Int} (hx : ρ x = .int .i64 p) (hy : ρ y = .int .i64 q) : (execOp ρ ⟨dst, .binOp .neq 3 x y 3, ty, pos, aft, gd⟩).run Try.prog w = .ok (.value (.bool (decide (p ≠ q)))) w := by
  go_simp
  rw [Bool.eq_iff_iff]; simp
theorem r_len25 {ao : Option Addr} {l c : Nat} (hx : ρ x = .slice ao l c) : (execOp ρ ⟨dst, .call { callee := .builtin .len, args := #[x], argTypes := #[41] }, ty, pos, aft, gd⟩).run Try.prog w = .ok (.value (.int .i64 l)) w := by
  go_simp
theorem r_len9 {B : List Nat} (hx : ρ x = .string (strN B)) : (execOp ρ ⟨dst, .call { callee := .builtin .len, args := #[x], argTypes := #[9] }, ty, pos, aft, gd⟩).run Try.prog w = .ok (.value (.int .i64 B.length)) w := by
  go_simp
  rw [strN_size]
theorem r_call1 {f : FuncId} {v : Value} {t : TypeId} {fn : Func} {c : Code} (hf : Try.prog.funcs[f]? = some fn) (hn : (fn.name == "runtime.NumGoroutine") = false) (hb : fn.body = some c) (hfv : ρ (.func f) = .func (.func f) #[] #[]) (hx : ρ x = v) :
    (execOp ρ ⟨dst, .call { callee := .value (.func f), args := #[x], argTypes := #[t] }, ty, pos, aft, gd⟩).run Try.prog w = .ok (.enter f #[v]) w := by
  have h := enters_of hf hn hb #[v] w
  simp [execOp, resolve, hfv, hx, Deferred.ofValue, invoke, h]
theorem r_call2 {f : FuncId} {u v : Value} {t s : TypeId} {fn : Func} {c : Code} (hf : Try.prog.funcs[f]? = some fn) (hn : (fn.name == "runtime.NumGoroutine") = false) (hb : fn.body = some c) (hfv : ρ (.func f) = .func (.func f) #[] #[]) (hx : ρ x = u) (hy : ρ y = v) :
    (execOp ρ ⟨dst, .call { callee := .value (.func f), args := #[x, y], argTypes := #[t, s] }, ty, pos, aft, gd⟩).run Try.prog w = .ok (.enter f #[u, v]) w := by
  have h := enters_of hf hn hb #[u, v] w
  simp [execOp, resolve, hfv, hx, hy, Deferred.ofValue, invoke, h]
theorem run_strS {v : Value} {B : List Nat} (hs : Src w v B) : (convert 41 9 v).run Try.prog w = .ok (.string (strN B)) w := by
  obtain ⟨bo, cap, rfl, hcap, hB, hsrc, hnil⟩ := hs
  by_cases h0 : B.length = 0
  · obtain rfl : B = [] := List.eq_nil_of_length_eq_zero h0
    have h := run_convert_bytes_string (P := Try.prog) w 41 9 5 bo 0 cap Try.underlying41 Try.underlying5 Try.underlying9
    have h2 : (Conv.bytesToString (.slice bo 0 cap)).run Try.prog w = .ok (.string (strN [])) w := by
      cases bo <;> simp [Conv.bytesToString, strN, strOfNums, Builtin.firstCells, loadCells] <;> rfl
    simpa using h.trans h2
  · obtain ⟨sb, so, rfl, hc⟩ := hsrc (by omega)
    exact run_convert_bytes_arg (P := Try.prog) w 41 5 Try.underlying41 Try.underlying5 sb so B.length cap (B.map fun n : Nat => (n : Int)) (by simp) (fun i hi => by
      have h1 := hc i _ (BV_get B i hi)
      rw [h1]
      simp [List.getD, hi]) 9 Try.underlying9
theorem r_strS {v : Value} {B : List Nat} (hx : ρ x = v) (hs : Src w v B) :
    (execOp ρ ⟨dst, .convert 41 9 x, ty, pos, aft, gd⟩).run Try.prog w = .ok (.value (.string (strN B))) w := by
  simp [execOp, hx, run_strS hs]
theorem r_bs25 (M : List Nat) {n : Nat} {es : Array (Nat × Operand)} (hn : n = M.length) (hbig : M.length ≤ 16777216) (hes : es.toList.map (fun p => (p.1, ρ p.2)) = ((BV M).zipIdx 0).map fun p => (p.2, p.1)) :
    (execOp ρ ⟨dst, .buildSlice 41 n es, ty, pos, aft, gd⟩).run Try.prog w = .ok (.value (.slice (some ⟨w.heap.size, 0, none⟩) n n)) (w.alloc (.cells (BV M).toArray 5)) := by
  obtain ⟨i5, hi5, hz5, hs5, hb5⟩ := info_parts Try.info5
  exact run_bs1 Try.underlying41 hi5 hz5 hs5 (BV M) (by rw [BV_length, hn]) (by rw [BV_length]; exact hbig) (fun v hv => by
    simp [BV] at hv
    obtain ⟨k, _, rfl⟩ := hv
    rfl) hes
theorem r_append25 {u v v' : Value} {w' : World} (hx : ρ x = u) (hy : ρ y = v) (h : (Builtin.append_ #[41, 41] ty #[u, v]).run Try.prog w = .ok v' w') :
    (execOp ρ ⟨dst, .call { callee := .builtin .append, args := #[x, y], argTypes := #[41, 41] }, ty, pos, aft, gd⟩).run Try.prog w = .ok (.value v') w' := by
  simp [execOp, resolve, invoke, builtin, hx, hy, h]
theorem r_appendZ {u v v' : Value} {w' : World} (hx : ρ x = u) (hy : ρ y = v) (h : (Builtin.append_ #[41, 3] ty #[u, v]).run Try.prog w = .ok v' w') :
    (execOp ρ ⟨dst, .call { callee := .builtin .append, args := #[x, y], argTypes := #[41, 3] }, ty, pos, aft, gd⟩).run Try.prog w = .ok (.value v') w' := by
  simp [execOp, resolve, invoke, builtin, hx, hy, h]
theorem r_shr64 {tb : TypeId} {p j : Nat} {k : IntKind} (hp : p < 9223372036854775808) (hx : ρ x = .int .i64 p) (hy : ρ y = .int k j) :
    (execOp ρ ⟨dst, .binOp .shr 3 x y tb, ty, pos, aft, gd⟩).run Try.prog w = .ok (.value (.int .i64 ((p / 2 ^ j : Nat) : Int))) w := by
  have hn : ¬ ((j : Int) < 0) := by omega
  have e : p / 2 ^ min j 64 = p / 2 ^ j := by
    by_cases h : j ≤ 64
    · rw [Nat.min_eq_left h]
    · rw [Nat.min_eq_right (by omega), Nat.div_eq_of_lt (by omega), Nat.div_eq_of_lt]
      exact Nat.lt_of_lt_of_le (by omega : p < 2 ^ 64) (Nat.pow_le_pow_right (by decide) (by omega))
  have hm : min ((j : Int).toNat) IntKind.i64.bits = min j 64 := by simp [IntKind.bits]
  have e2 : (p : Int).fdiv (2 ^ min j IntKind.i64.bits) = (p : Int) / 2 ^ j := by
    rw [Int.fdiv_eq_ediv_of_nonneg _ (Int.pow_nonneg (by decide)), show IntKind.i64.bits = 64 from rfl]
    have := congrArg (fun n : Nat => (n : Int)) e
    push_cast at this
    exact this
  simp [execOp, eqGuard, binOp, Op.shift, hx, hy, hn]
  exact e2
end

end Go.Proofs.Ytnlcmgdeohbmoaa

/-
  Slices of one's own: append bytes, and noughts; where the slice lies afterwards.
-/
namespace Go.Proofs.Ytnlcmgdeohbmoaa
open Go.RowKit Go.Shelf
set_option linter.unusedSimpArgs false
set_option linter.unusedVariables false
set_option maxRecDepth 100000

/-- A slice of one's own that holds the bytes A. -/
def Own (w : World) (base : Nat) (v : Value) (A : List Nat) : Prop := w.ownsRow base 5 1 v A.length (BV A) ∧ ∀ x ∈ A, x < 256
theorem Blk.src {w : World} {g cap : Nat} {L : List Value} {B : List Nat} (h : Blk w g L 5) (hL : L.take B.length = BV B) (hB : ∀ x ∈ B, x < 256) (hc : B.length ≤ cap) : Src w (.slice (some ⟨g, 0, none⟩) B.length cap) B := by
  refine ⟨_, _, rfl, hc, hB, fun _ => ⟨g, 0, rfl, ?_⟩, fun h => by cases h⟩
  have := h.cells 0 B.length
  rw [List.drop_zero, hL] at this
  exact this
theorem Own.src {w : World} {base : Nat} {v : Value} {A : List Nat} (h : Own w base v A) : Src w v A := by
  obtain ⟨h, hA⟩ := h
  rcases h.2 with ⟨rfl, h0⟩ | ⟨g, cap, cur, rfl, hb, hg, hnc, hcm, hcs, htake⟩
  · obtain rfl : A = [] := List.eq_nil_of_length_eq_zero h0
    exact ⟨none, 0, rfl, Nat.le_refl _, hA, fun h => by simp at h, fun _ => rfl⟩
  · refine Blk.src (L := cur.toList) (by unfold Blk; simpa using hg) ?_ hA hnc
    simpa using htake
theorem Own.nil (w : World) (base : Nat) : Own w base (.slice none 0 0) [] := ⟨World.ownsRow_nil _ _ _ _, by simp⟩
theorem Own.kept {w w' : World} {base : Nat} {v : Value} {A : List Nat} {S : Nat → Prop} (h : Own w base v A) (hk : Kept S w w') (hn : ∀ k, v.ownBlock = some k → ¬ S k) : Own w' base v A := by
  obtain ⟨⟨h1, h2⟩, hA⟩ := h
  refine ⟨⟨h1, ?_⟩, hA⟩
  rcases h2 with h2 | ⟨g, cap, cur, rfl, hb, hg, hr⟩
  · exact .inl h2
  · exact .inr ⟨g, cap, cur, rfl, hb, (hk.block g (Array.getElem?_eq_some_iff.1 hg).1 (hn g rfl)).trans hg, hr⟩
/-- The block of such a slice is of bytes. -/
theorem Own.blk_ne {w : World} {base : Nat} {v : Value} {A : List Nat} {b : Nat} {L : List Value} {t : TypeId} (h : Own w base v A) (hb : Blk w b L t) (ht : t ≠ 5) : v.ownBlock ≠ some b := by
  intro e
  rcases h.1.2 with ⟨rfl, _⟩ | ⟨g, cap, cur, rfl, _, hg, _⟩
  · simp [Value.ownBlock] at e
  · simp [Value.ownBlock] at e
    subst e
    unfold Blk at hb
    rw [hg] at hb
    simp at hb
    exact ht hb.2.symm
theorem Own.lt {w : World} {base : Nat} {v : Value} {A : List Nat} (h : Own w base v A) : ∀ k, v.ownBlock = some k → k < w.heap.size := fun k hk => (h.1.lt k hk).2
theorem append_src {w : World} {base : Nat} {v u : Value} {A B : List Nat} (ho : Own w base v A) (hs : Src w u B) (hl : A.length + B.length ≤ 100000000) (hb : base ≤ w.heap.size) (ty : TypeId) :
    ∃ v' w', (Builtin.append_ #[41, 41] ty #[v, u]).run Try.prog w = .ok v' w' ∧ Own w' base v' (A ++ B) ∧ Kept (fun k => v.ownBlock = some k) w w' ∧ (v'.ownBlock = v.ownBlock ∨ v'.ownBlock = some w.heap.size) := by
  obtain ⟨i5, hi5, hz5, hs5, hb5⟩ := info_parts Try.info5
  obtain ⟨ho, hA⟩ := ho
  have hB := hs.lt
  have hAB : ∀ x ∈ A ++ B, x < 256 := fun x hx => by
    rcases List.mem_append.1 hx with h | h
    · exact hA x h
    · exact hB x h
  obtain ⟨bo, cap, rfl, hcap, _, hsrc, hnil⟩ := hs
  cases bo with
  | none =>
    obtain rfl : cap = 0 := hnil rfl
    obtain rfl : B = [] := List.eq_nil_of_length_eq_zero (by omega)
    have h := run_append_owned_none (P := Try.prog) (w := w) base 41 ty 5 i5 1 Try.underlying41 hi5 v A.length (BV A) ho
    refine ⟨_, _, h, ⟨by simpa using ho, hAB⟩, Kept.refl _ _, .inl rfl⟩
  | some a =>
    have hn : ∀ j u, (BV B)[j]? = some u → w.cell? (a.add j) = some u := by
      intro j u hj
      by_cases h0 : 0 < B.length
      · obtain ⟨sb, so, he, hc⟩ := hsrc h0
        cases he
        rw [addr_add]
        exact hc j u hj
      · obtain rfl : B = [] := List.eq_nil_of_length_eq_zero (by omega)
        simp [BV] at hj
    obtain ⟨v', w', hr, h2, h3, _, h5⟩ := run_append_own_at (P := Try.prog) w base 41 ty 5 i5 _ 1 1 Try.underlying41 hi5 hz5 hs5 hb5 rfl (by decide) v A.length (BV A) ho a B.length cap (BV B) (by simp [BV]) hn (BV_one B) (by unfold maxLen; omega) (by omega) hb
    refine ⟨v', w', hr, ⟨by simpa [BV_append] using h2, hAB⟩, ?_, h5⟩
    have hk := Kept.of_grown h3
    exact hk

theorem zeroC (n : Nat) : Builtin.zeroCells (Value.cells (.int .u8 0)) n = (BV (List.replicate n 0)).toArray := by
  apply Array.ext
  · simp [Builtin.zeroCells, BV, Value.cells]
  · intro i h1 h2
    simp [Builtin.zeroCells, BV, Value.cells, Nat.mod_one]
/-- append(v, make([]byte, m)...). -/
theorem append_zero {w : World} {base : Nat} {v : Value} {A : List Nat} (ho : Own w base v A) (m : Nat) (hl : A.length + m ≤ 100000000) (hb : base ≤ w.heap.size) (ty : TypeId) :
    ∃ v' w', (Builtin.append_ #[41, 3] ty #[v, .int .i64 m]).run Try.prog w = .ok v' w' ∧ Own w' base v' (A ++ List.replicate m 0) ∧ Kept (fun k => v.ownBlock = some k) w w' ∧ (v'.ownBlock = v.ownBlock ∨ v'.ownBlock = some w.heap.size) := by
  obtain ⟨i5, hi5, hz5, hs5, hb5⟩ := info_parts Try.info5
  obtain ⟨ho, hA⟩ := ho
  have hAB : ∀ x ∈ A ++ List.replicate m 0, x < 256 := fun x hx => by
    rcases List.mem_append.1 hx with h | h
    · exact hA x h
    · have := List.eq_of_mem_replicate h
      omega
  have hw : IntKind.i64.wrap (m : Int) = (m : Int) := by rw [IntKind.wrap_i64]; omega
  have hw0 : IntKind.i64.wrap 0 = 0 := by decide
  have hn0 : ¬ ((m : Int) < 0) := by omega
  have hbig : ¬ ((281474976710656 : Int) < (m : Int)) := by omega
  have hz := zeroC m
  have hlen : (BV A ++ BV (List.replicate m 0)).length = (A.length + m) * 1 := by simp [BV]
  have hown2 : (A ++ List.replicate m 0).length = A.length + m := by simp
  have hN1 : ∀ u ∈ BV (List.replicate m 0), u.oneCell' = true := BV_one _
  have grown : ∀ (old : Nat), old < A.length + m → ∀ (row : Option Nat),
      Own (w.drew.alloc (.cells ((BV A).toArray ++ (BV (List.replicate m 0)).toArray ++ Builtin.zeroCells (Value.cells (.int .u8 0)) (grownCap w (A.length + m) old 5 - (A.length + m))) 5)) base
        (.slice (some ⟨w.heap.size, 0, none⟩) (A.length + m) (grownCap w (A.length + m) old 5)) (A ++ List.replicate m 0) ∧
      Kept (fun k => row = some k) w (w.drew.alloc (.cells ((BV A).toArray ++ (BV (List.replicate m 0)).toArray ++ Builtin.zeroCells (Value.cells (.int .u8 0)) (grownCap w (A.length + m) old 5 - (A.length + m))) 5)) := by
    intro old hold row
    have hge := grownCap_ge w (A.length + m) old 5
    have hcm : grownCap w (A.length + m) old 5 ≤ maxLen := grownCap_le_maxLen w (A.length + m) old 5 (by unfold maxLen; omega)
    refine ⟨⟨⟨by rw [hown2, BV_append]; exact hlen, .inr ⟨w.heap.size, _, _, by rw [hown2], hb, heap_alloc_new w.drew _, by rw [hown2]; exact hge, hcm, ?_, ?_⟩⟩, hAB⟩, ⟨rfl, rfl, rfl, by simp, fun k hk _ => Below.heap_alloc w.drew _ k hk⟩⟩
    · simp only [Array.size_append, List.size_toArray, size_zeroCells, BV_length, List.length_replicate]
      have : (Value.cells (.int .u8 0)).size = 1 := rfl
      rw [this]
      omega
    · rw [hown2, BV_append, ← hlen]
      simp only [Array.toList_append, List.append_assoc]
      rw [← List.append_assoc]
      exact List.take_left
  rcases ho.2 with ⟨rfl, h0⟩ | ⟨g, cap, cur, rfl, hbg, hg, hnc, hcm, hcs, htake⟩
  · obtain rfl : A = [] := List.eq_nil_of_length_eq_zero h0
    by_cases hm : m = 0
    · subst hm
      refine ⟨.slice none 0 0, w, ?_, Own.nil w base, Kept.refl _ _, .inl rfl⟩
      simp [Builtin.append_, run_underlying Try.underlying41, run_underlying Try.underlying3, sizeOf, typeInfo, hi5, hs5, hb5, asInt, asIntOf, hw, hw0]
    · have hgr := grown 0 (by simp; omega) (Value.ownBlock (.slice none 0 0))
      simp only [List.length_nil, Nat.zero_add, List.nil_append, BV, List.map_nil, Array.empty_append] at hgr ⊢
      have h48' : ¬ (281474976710656 < Builtin.nextslicecap m 0) := by rw [nextslicecap_zero (by omega)]; omega
      have h63' : ¬ (9223372036854775807 < (m : Int)) := by omega
      have hmm : ¬ (m * 1 = 0) := by omega
      refine ⟨_, _, ?_, hgr.1, hgr.2, .inr rfl⟩
      simp [Builtin.append_, run_underlying Try.underlying41, run_underlying Try.underlying3, sizeOf, typeInfo, zeroValue, hi5, hs5, hb5, hz5, asInt, asIntOf, hw, hn0, hbig, hm, h48', h63', Question.forced, run_firstCells_none, newRow, grownCap, hz, BV]
  · by_cases hroom : A.length + m ≤ cap
    · have hfit : A.length * 1 + (BV (List.replicate m 0)).length ≤ cur.size := by rw [BV_length, hcs]; simp; omega
      have hst := run_storeCells_at (P := Try.prog) g A.length 5 (BV (List.replicate m 0)) 0 cur w hg (by rw [hcs]; simp [BV]; omega) hN1
      by_cases hm : m = 0
      · subst hm
        refine ⟨_, w, ?_, ⟨by simpa using ho, hAB⟩, Kept.refl _ _, .inl rfl⟩
        simp [Builtin.append_, run_underlying Try.underlying41, run_underlying Try.underlying3, sizeOf, typeInfo, hi5, hs5, hb5, asInt, asIntOf, hw, hw0, hnc, storeCells]
      · refine ⟨.slice (some ⟨g, 0, none⟩) (A.length + m) cap, w.setRow g (cur.toList.take (A.length + 0) ++ BV (List.replicate m 0) ++ cur.toList.drop (A.length + 0 + (BV (List.replicate m 0)).length)).toArray, ?_, ⟨⟨by rw [hown2, BV_append]; exact hlen, .inr ⟨g, cap, _, by rw [hown2], hbg, setRow_heap w g cur _ 5 _ hg, by rw [hown2]; exact hroom, hcm, ?_, ?_⟩⟩, hAB⟩, Kept.setRow w g _ rfl, .inl rfl⟩
        · simp [Builtin.append_, run_underlying Try.underlying41, run_underlying Try.underlying3, sizeOf, typeInfo, zeroValue, hi5, hs5, hb5, hz5, asInt, asIntOf, hw, hn0, hbig, hm, hroom, hz, addr_add]
          simp at hst
          rw [hst]
          rfl
        · simp [BV]
          omega
        · rw [hown2, BV_append, Nat.add_zero, show cur.toList.take A.length = BV A by simpa using htake, ← hlen]
          exact List.take_left
    · have holds : ∀ j u, (BV A)[j]? = some u → w.cell? ((⟨g, 0, none⟩ : Addr).add j) = some u := ho.cells (g := g) rfl
      have hfo := run_firstCells_some (P := Try.prog) w.drew 1 A.length ⟨g, 0, none⟩ A.length cap (BV A) (by simp [BV]) (by simpa using holds)
      have hgr := grown cap (by omega) (Value.ownBlock (.slice (some ⟨g, 0, none⟩) A.length cap))
      have h48' : ¬ (281474976710656 < Builtin.nextslicecap (A.length + m) cap) := by have := growslice_fits (need := A.length + m) (old := cap) (bytes := 1) (by omega) (by omega); omega
      have h63' : ¬ (9223372036854775807 < (A.length : Int) + (m : Int)) := by omega
      have hm : ¬ m = 0 := by omega
      refine ⟨_, _, ?_, hgr.1, hgr.2, .inr rfl⟩
      simp [Builtin.append_, run_underlying Try.underlying41, run_underlying Try.underlying3, sizeOf, typeInfo, zeroValue, hi5, hs5, hb5, hz5, asInt, asIntOf, hw, hn0, hbig, hm, hroom, h48', h63', Question.forced, hfo, newRow, grownCap, hz]
      congr 2
      apply Array.ext'
      simp [List.append_assoc]

end Go.Proofs.Ytnlcmgdeohbmoaa
