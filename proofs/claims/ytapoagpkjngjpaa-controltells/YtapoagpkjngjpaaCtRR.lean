/-
  The reference's Right.
-/
import Derived.Test.YtapoagpkjngjpaaCtT
import Derived.Test.YtapoagpkjngjpaaFrUnP
import Derived.Test.YtapoagpkjngjpaaCtWr
namespace Go.Proofs.Ytapoagpkjngjpaa
open Go.RowKit Go.Shelf
set_option linter.unusedSimpArgs false
set_option linter.unusedVariables false
set_option maxRecDepth 100000

/-- What the chain needs of a frame. -/
structure StR (a : Act) (b1 : Nat) : Prop where
  size : a.tmps.size = 75
  defers : a.defers = []
  e1 : a.eval (.tmp 1) = .pointer (some ⟨b1, 0, none⟩)
  e3 : a.eval (.tmp 3) = .int .i64 2305843009213693952
theorem StR.put {a : Act} {b1 t : Nat} {v : Value} (h : StR a b1) (h1 : t ≠ 1) (h3 : t ≠ 3) : StR (a.put (some t) v) b1 :=
  ⟨by rw [size_put]; exact h.size, by rw [put_defers]; exact h.defers, by rw [eval_put_ne _ _ _ _ h1]; exact h.e1, by rw [eval_put_ne _ _ _ _ h3]; exact h.e3⟩
section
variable {ρ : Operand → Value} {w : World} {dst : Option Tmp} {ty : TypeId} {pos : String} {aft : Array Edge} {gd : Option (Nat × Bool)} {x y z : Operand}
theorem r_ge3 {i j : Int} (hx : ρ x = .int .i64 i) (hy : ρ y = .int .i64 j) : (execOp ρ ⟨dst, .binOp .geq 3 x y 3, ty, pos, aft, gd⟩).run Try.prog w = .ok (.value (.bool (decide (j ≤ i)))) w := by
  by_cases h : j ≤ i
  · have h' : ¬ i < j := by omega
    go_simp
  · have h' : i < j := by omega
    go_simp
theorem r_le3 {i j : Int} (hx : ρ x = .int .i64 i) (hy : ρ y = .int .i64 j) : (execOp ρ ⟨dst, .binOp .leq 3 x y 3, ty, pos, aft, gd⟩).run Try.prog w = .ok (.value (.bool (decide (i ≤ j)))) w := by
  by_cases h : i ≤ j
  · have h' : ¬ j < i := by omega
    go_simp
  · have h' : j < i := by omega
    go_simp
theorem r_eq3 {i j : Int} (hx : ρ x = .int .i64 i) (hy : ρ y = .int .i64 j) : (execOp ρ ⟨dst, .binOp .eql 3 x y 3, ty, pos, aft, gd⟩).run Try.prog w = .ok (.value (.bool (decide (i = j)))) w := by
  go_simp
  rfl
end
section
variable {P : Program} {ops : Array Oper} {Q : Exit → Act → World → Prop} {a : Act} {w : World} {rest : List Oper} {o : Oper} {v : Value}
theorem wanted_undef {o oj : Oper} {j d : Nat} {bb : Bool} (hg : o.guard = some (j, bb)) (hj : ops[j]? = some oj) (hd : oj.dst = some d) (hb : a.eval (.tmp d) = undef) (hs : d < a.tmps.size) : Region.wanted o (yielded ops a.tmps) = false := by
  have hb' : a.tmps[d]? = some undef := by
    simp only [Act.eval, Array.getD_eq_getD_getElem?] at hb
    rw [Array.getElem?_eq_getElem hs] at hb ⊢
    simpa using hb
  cases bb <;> simp [Region.wanted, hg, yielded, hj, hd, hb', undef]
theorem lsW (hw : Region.wanted o (yielded ops a.tmps) = true) (hr : (execOp a.eval o).run P w = .ok (.value v) w) (h : wpList P ops Q rest (a.put o.dst v) w) : wpList P ops Q (o :: rest) a w :=
  wpList_step fun K hK => by rw [if_pos hw]; unfold Oper.wp; rw [hr]; exact hK _ _ h
end
section
variable {ops : Array Oper} {Q : Exit → Act → World → Prop} {a : Act} {w : World} {rest : List Oper} {c : Ct} {b1 : Nat} {s1 s2 s3 s4 s5 s6 s7 s8 s9 s10 : String} {t1 t2 t3 t4 t5 t6 t7 t8 t9 t10 : Array Edge} {pv : Bool}
/-- One link: && x >= M, or && x <= M. -/
theorem andGrp (hS : StR a b1) (hB : Blk w b1 (ctV c) 23) (j prev m f l cc p k : Nat) (o : BinOp) (M : Int) {x : Int} {q : Bool} (hk7 : k < 7) (hx : (ctV c)[k]? = some (.int .i64 x)) (hprev : a.eval (.tmp prev) = .bool pv)
    (hsl : 3 < m ∧ m < f ∧ f < l ∧ l < cc ∧ cc < p ∧ p < 75) (ho : ∀ (a' : Act) (dst : Option Tmp) (ty : TypeId) (pos : String) (aft : Array Edge) (gd : Option (Nat × Bool)), a'.eval (.tmp l) = .int .i64 x → (execOp a'.eval ⟨dst, .binOp o 3 (.tmp l) (.const (.int .i64 M)) 3, ty, pos, aft, gd⟩).run Try.prog w = .ok (.value (.bool q)) w)
    (hj : ops[j]? = some ⟨some m, .move (.tmp prev), 4, s1, t1, none⟩)
    (h : ∀ a', StR a' b1 → a'.eval (.tmp p) = .bool (pv && q) → wpList Try.prog ops Q rest a' w) :
    wpList Try.prog ops Q (⟨some m, .move (.tmp prev), 4, s1, t1, none⟩ :: ⟨some f, .fieldAddr 23 (.tmp 1) k, 0, s2, t2, some (j, true)⟩ :: ⟨some l, .load 3 (.tmp f), 3, s3, t3, some (j, true)⟩ :: ⟨some cc, .binOp o 3 (.tmp l) (.const (.int .i64 M)) 3, 4, s4, t4, some (j, true)⟩ :: ⟨some p, .pick (.tmp m) (.tmp cc) (.const (.bool false)), 4, s5, t5, none⟩ :: rest) a w := by
  have hts := hS.size
  refine lsW (wanted_none rfl) (r_move hprev) ?_
  have hS1 : StR (a.put (some m) (.bool pv)) b1 := hS.put (by omega) (by omega)
  have em : (a.put (some m) (.bool pv)).eval (.tmp m) = .bool pv := eval_put_eq _ _ _ (by omega)
  show wpList _ _ _ _ (a.put (some m) (.bool pv)) w
  generalize a.put (some m) (.bool pv) = a1 at hS1 em ⊢
  have hs1 := hS1.size
  cases pv with
  | true =>
    refine lsW (wanted_some rfl hj rfl em (by omega)) (r_f23 hk7 hS1.e1) ?_
    refine lsW (wanted_some rfl hj rfl (by rw [eval_put_ne _ _ _ _ (by omega)]; exact em) (by simp only [size_put]; omega)) (r_ld3 (eval_put_eq _ _ _ (by omega)) (by rw [hB.cell]; exact hx)) ?_
    refine lsW (wanted_some rfl hj rfl (by rw [eval_put_ne _ _ _ _ (by omega), eval_put_ne _ _ _ _ (by omega)]; exact em) (by simp only [size_put]; omega)) (ho _ _ _ _ _ _ (eval_put_eq _ _ _ (by simp only [size_put]; omega))) ?_
    refine lsW (wanted_none rfl) (r_pick (by rw [eval_put_ne _ _ _ _ (by omega), eval_put_ne _ _ _ _ (by omega), eval_put_ne _ _ _ _ (by omega)]; exact em) (eval_put_eq _ _ _ (by simp only [size_put]; omega))) ?_
    exact h _ ((((hS1.put (by omega) (by omega)).put (by omega) (by omega)).put (by omega) (by omega)).put (by omega) (by omega)) ((eval_put_eq _ _ _ (by simp only [size_put]; omega)).trans (by simp))
  | false =>
    refine wpList_skip (wanted_not rfl hj rfl em (by omega)) ?_
    refine wpList_skip (wanted_not rfl hj rfl (by rw [eval_put_ne _ _ _ _ (by omega)]; exact em) (by simp only [size_put]; omega)) ?_
    refine wpList_skip (wanted_not rfl hj rfl (by rw [eval_put_ne _ _ _ _ (by omega), eval_put_ne _ _ _ _ (by omega)]; exact em) (by simp only [size_put]; omega)) ?_
    refine lsW (v := .bool false) (wanted_none rfl) (r_pickF (by rw [eval_put_ne _ _ _ _ (by omega), eval_put_ne _ _ _ _ (by omega), eval_put_ne _ _ _ _ (by omega)]; exact em) rfl) ?_
    exact h _ ((((hS1.put (by omega) (by omega)).put (by omega) (by omega)).put (by omega) (by omega)).put (by omega) (by omega)) ((eval_put_eq _ _ _ (by simp only [size_put]; omega)).trans (by simp))
/-- One link: && x <= most. -/
theorem andGrpM (hS : StR a b1) (hB : Blk w b1 (ctV c) 23) (j prev m f l mm cc p k : Nat) {x : Int} (hk7 : k < 7) (hx : (ctV c)[k]? = some (.int .i64 x)) (hprev : a.eval (.tmp prev) = .bool pv)
    (hsl : 3 < m ∧ m < f ∧ f < l ∧ l < mm ∧ mm < cc ∧ cc < p ∧ p < 75)
    (hj : ops[j]? = some ⟨some m, .move (.tmp prev), 4, s1, t1, none⟩)
    (h : ∀ a', StR a' b1 → a'.eval (.tmp p) = .bool (pv && decide (x ≤ 2305843009213693952)) → wpList Try.prog ops Q rest a' w) :
    wpList Try.prog ops Q (⟨some m, .move (.tmp prev), 4, s1, t1, none⟩ :: ⟨some f, .fieldAddr 23 (.tmp 1) k, 0, s2, t2, some (j, true)⟩ :: ⟨some l, .load 3 (.tmp f), 3, s3, t3, some (j, true)⟩ :: ⟨some mm, .move (.tmp 3), 3, s6, t6, some (j, true)⟩ :: ⟨some cc, .binOp .leq 3 (.tmp l) (.tmp mm) 3, 4, s4, t4, some (j, true)⟩ :: ⟨some p, .pick (.tmp m) (.tmp cc) (.const (.bool false)), 4, s5, t5, none⟩ :: rest) a w := by
  have hts := hS.size
  refine lsW (wanted_none rfl) (r_move hprev) ?_
  have hS1 : StR (a.put (some m) (.bool pv)) b1 := hS.put (by omega) (by omega)
  have em : (a.put (some m) (.bool pv)).eval (.tmp m) = .bool pv := eval_put_eq _ _ _ (by omega)
  show wpList _ _ _ _ (a.put (some m) (.bool pv)) w
  generalize a.put (some m) (.bool pv) = a1 at hS1 em ⊢
  have hs1 := hS1.size
  cases pv with
  | true =>
    refine lsW (wanted_some rfl hj rfl em (by omega)) (r_f23 hk7 hS1.e1) ?_
    refine lsW (wanted_some rfl hj rfl (by rw [eval_put_ne _ _ _ _ (by omega)]; exact em) (by simp only [size_put]; omega)) (r_ld3 (eval_put_eq _ _ _ (by omega)) (by rw [hB.cell]; exact hx)) ?_
    refine lsW (wanted_some rfl hj rfl (by rw [eval_put_ne _ _ _ _ (by omega), eval_put_ne _ _ _ _ (by omega)]; exact em) (by simp only [size_put]; omega)) (r_move (v := .int .i64 2305843009213693952) (by rw [eval_put_ne _ _ _ _ (by omega), eval_put_ne _ _ _ _ (by omega)]; exact hS1.e3)) ?_
    refine lsW (wanted_some rfl hj rfl (by rw [eval_put_ne _ _ _ _ (by omega), eval_put_ne _ _ _ _ (by omega), eval_put_ne _ _ _ _ (by omega)]; exact em) (by simp only [size_put]; omega)) (r_le3 (i := x) (by rw [eval_put_ne _ _ _ _ (by omega)]; exact eval_put_eq _ _ _ (by simp only [size_put]; omega)) (eval_put_eq _ _ _ (by simp only [size_put]; omega))) ?_
    refine lsW (wanted_none rfl) (r_pick (by rw [eval_put_ne _ _ _ _ (by omega), eval_put_ne _ _ _ _ (by omega), eval_put_ne _ _ _ _ (by omega), eval_put_ne _ _ _ _ (by omega)]; exact em) (eval_put_eq _ _ _ (by simp only [size_put]; omega))) ?_
    exact h _ (((((hS1.put (by omega) (by omega)).put (by omega) (by omega)).put (by omega) (by omega)).put (by omega) (by omega)).put (by omega) (by omega)) ((eval_put_eq _ _ _ (by simp only [size_put]; omega)).trans (by simp))
  | false =>
    refine wpList_skip (wanted_not rfl hj rfl em (by omega)) ?_
    refine wpList_skip (wanted_not rfl hj rfl (by rw [eval_put_ne _ _ _ _ (by omega)]; exact em) (by simp only [size_put]; omega)) ?_
    refine wpList_skip (wanted_not rfl hj rfl (by rw [eval_put_ne _ _ _ _ (by omega), eval_put_ne _ _ _ _ (by omega)]; exact em) (by simp only [size_put]; omega)) ?_
    refine wpList_skip (wanted_not rfl hj rfl (by rw [eval_put_ne _ _ _ _ (by omega), eval_put_ne _ _ _ _ (by omega), eval_put_ne _ _ _ _ (by omega)]; exact em) (by simp only [size_put]; omega)) ?_
    refine lsW (v := .bool false) (wanted_none rfl) (r_pickF (by rw [eval_put_ne _ _ _ _ (by omega), eval_put_ne _ _ _ _ (by omega), eval_put_ne _ _ _ _ (by omega), eval_put_ne _ _ _ _ (by omega)]; exact em) rfl) ?_
    exact h _ (((((hS1.put (by omega) (by omega)).put (by omega) (by omega)).put (by omega) (by omega)).put (by omega) (by omega)).put (by omega) (by omega)) ((eval_put_eq _ _ _ (by simp only [size_put]; omega)).trans (by simp))
/-- One link: && (x == 0 || x == 1). -/
theorem orGrp (hS : StR a b1) (hB : Blk w b1 (ctV c) 23) {x : Int} (hx : (ctV c)[2]? = some (.int .i64 x)) (hprev : a.eval (.tmp 22) = .bool pv)
    (hj : ops[19]? = some ⟨some 23, .move (.tmp 22), 4, s1, t1, none⟩) (hj2 : ops[23]? = some ⟨some 27, .move (.tmp 26), 4, s5, t5, some (19, true)⟩)
    (h : ∀ a', StR a' b1 → a'.eval (.tmp 32) = .bool (pv && (decide (x = 0) || decide (x = 1))) → wpList Try.prog ops Q rest a' w) :
    wpList Try.prog ops Q (⟨some 23, .move (.tmp 22), 4, s1, t1, none⟩ :: ⟨some 24, .fieldAddr 23 (.tmp 1) 2, 0, s2, t2, some (19, true)⟩ :: ⟨some 25, .load 3 (.tmp 24), 3, s3, t3, some (19, true)⟩ :: ⟨some 26, .binOp .eql 3 (.tmp 25) (.const (.int .i64 0)) 3, 4, s4, t4, some (19, true)⟩ :: ⟨some 27, .move (.tmp 26), 4, s5, t5, some (19, true)⟩
      :: ⟨some 28, .fieldAddr 23 (.tmp 1) 2, 0, s6, t6, some (23, false)⟩ :: ⟨some 29, .load 3 (.tmp 28), 3, s7, t7, some (23, false)⟩ :: ⟨some 30, .binOp .eql 3 (.tmp 29) (.const (.int .i64 1)) 3, 4, s8, t8, some (23, false)⟩ :: ⟨some 31, .pick (.tmp 27) (.const (.bool true)) (.tmp 30), 4, s9, t9, some (19, true)⟩
      :: ⟨some 32, .pick (.tmp 23) (.tmp 31) (.const (.bool false)), 4, s10, t10, none⟩ :: rest) a w := by
  have hts := hS.size
  refine lsW (wanted_none rfl) (r_move hprev) ?_
  have hS1 : StR (a.put (some 23) (.bool pv)) b1 := hS.put (by omega) (by omega)
  have em : (a.put (some 23) (.bool pv)).eval (.tmp 23) = .bool pv := eval_put_eq _ _ _ (by omega)
  show wpList _ _ _ _ (a.put (some 23) (.bool pv)) w
  generalize a.put (some 23) (.bool pv) = a1 at hS1 em ⊢
  have hs1 := hS1.size
  have hd1 := hS1.defers
  have h1 := hS1.e1
  have h3 := hS1.e3
  cases pv with
  | false =>
    refine wpList_skip (wanted_not rfl hj rfl em (by omega)) ?_
    refine wpList_skip (wanted_not rfl hj rfl (by simp [eval_put_ne, em]) (by simp only [size_put]; omega)) ?_
    refine wpList_skip (wanted_not rfl hj rfl (by simp [eval_put_ne, em]) (by simp only [size_put]; omega)) ?_
    refine wpList_skip (wanted_not rfl hj rfl (by simp [eval_put_ne, em]) (by simp only [size_put]; omega)) ?_
    refine wpList_skip (wanted_undef rfl hj2 rfl (by simp [eval_put_ne, eval_put_eq, size_put, hs1]) (by simp only [size_put]; omega)) ?_
    refine wpList_skip (wanted_undef rfl hj2 rfl (by simp [eval_put_ne, eval_put_eq, size_put, hs1]) (by simp only [size_put]; omega)) ?_
    refine wpList_skip (wanted_undef rfl hj2 rfl (by simp [eval_put_ne, eval_put_eq, size_put, hs1]) (by simp only [size_put]; omega)) ?_
    refine wpList_skip (wanted_not rfl hj rfl (by simp [eval_put_ne, em]) (by simp only [size_put]; omega)) ?_
    refine lsW (v := .bool false) (wanted_none rfl) (r_pickF (by simp [eval_put_ne, em]) rfl) ?_
    refine h _ ⟨by simp only [size_put]; exact hs1, by simp only [put_defers]; exact hd1, by simp [eval_put_ne, h1], by simp [eval_put_ne, h3]⟩ ?_
    simp [eval_put_eq, size_put, hs1]
  | true =>
    refine lsW (wanted_some rfl hj rfl em (by omega)) (r_f23 (by decide) h1) ?_
    refine lsW (wanted_some rfl hj rfl (by simp [eval_put_ne, em]) (by simp only [size_put]; omega)) (r_ld3 (eval_put_eq _ _ _ (by omega)) (by rw [hB.cell]; exact hx)) ?_
    refine lsW (wanted_some rfl hj rfl (by simp [eval_put_ne, em]) (by simp only [size_put]; omega)) (r_eq3 (i := x) (j := 0) (eval_put_eq _ _ _ (by simp only [size_put]; omega)) rfl) ?_
    refine lsW (v := .bool (decide (x = 0))) (wanted_some rfl hj rfl (by simp [eval_put_ne, em]) (by simp only [size_put]; omega)) (r_move (eval_put_eq _ _ _ (by simp only [size_put]; omega))) ?_
    by_cases h0 : x = 0
    · rw [decide_eq_true h0] at h ⊢
      refine wpList_skip (wanted_not rfl hj2 rfl (eval_put_eq _ _ _ (by simp only [size_put]; omega)) (by simp only [size_put]; omega)) ?_
      refine wpList_skip (wanted_not rfl hj2 rfl (by simp [eval_put_ne, eval_put_eq, size_put, hs1]) (by simp only [size_put]; omega)) ?_
      refine wpList_skip (wanted_not rfl hj2 rfl (by simp [eval_put_ne, eval_put_eq, size_put, hs1]) (by simp only [size_put]; omega)) ?_
      refine lsW (v := .bool true) (wanted_some rfl hj rfl (by simp [eval_put_ne, em]) (by simp only [size_put]; omega)) (r_pick (by simp [eval_put_ne, eval_put_eq, size_put, hs1]) rfl) ?_
      refine lsW (v := .bool true) (wanted_none rfl) (r_pick (by simp [eval_put_ne, em]) (by simp [eval_put_ne, eval_put_eq, size_put, hs1])) ?_
      refine h _ ⟨by simp only [size_put]; exact hs1, by simp only [put_defers]; exact hd1, by simp [eval_put_ne, h1], by simp [eval_put_ne, h3]⟩ ?_
      simp [eval_put_eq, size_put, hs1]
    · rw [decide_eq_false h0] at h ⊢
      refine lsW (wanted_some rfl hj2 rfl (eval_put_eq _ _ _ (by simp only [size_put]; omega)) (by simp only [size_put]; omega)) (r_f23 (b := b1) (k := 2) (by decide) (by simp [eval_put_ne, h1])) ?_
      refine lsW (wanted_some rfl hj2 rfl (by simp [eval_put_ne, eval_put_eq, size_put, hs1]) (by simp only [size_put]; omega)) (r_ld3 (b := b1) (o := 2) (eval_put_eq _ _ _ (by simp only [size_put]; omega)) (by rw [hB.cell]; exact hx)) ?_
      refine lsW (wanted_some rfl hj2 rfl (by simp [eval_put_ne, eval_put_eq, size_put, hs1]) (by simp only [size_put]; omega)) (r_eq3 (i := x) (j := 1) (eval_put_eq _ _ _ (by simp only [size_put]; omega)) rfl) ?_
      refine lsW (v := .bool (decide (x = 1))) (wanted_some rfl hj rfl (by simp [eval_put_ne, em]) (by simp only [size_put]; omega)) (r_pickF (by simp [eval_put_ne, eval_put_eq, size_put, hs1]) (by simp [eval_put_ne, eval_put_eq, size_put, hs1])) ?_
      refine lsW (v := .bool (decide (x = 1))) (wanted_none rfl) (r_pick (by simp [eval_put_ne, em]) (by simp [eval_put_ne, eval_put_eq, size_put, hs1])) ?_
      refine h _ ⟨by simp only [size_put]; exact hs1, by simp only [put_defers]; exact hd1, by simp [eval_put_ne, h1], by simp [eval_put_ne, h3]⟩ ?_
      simp [eval_put_eq, size_put, hs1]
end

set_option maxHeartbeats 4000000 in
theorem ctrright_at (w : World) (c : Ct) (b : Bool) (hb : rightC c = b) : Calls Try.prog 7 #[ctAgg c] w fun x w' => x = .returned (.bool b) ∧ Kept (fun _ => False) w w' := by
  have HB := hide hb
  clear hb
  unfold ctAgg
  go_enter Try.func7, Try.ntmps7
  refine wp_seq (wp_region_lit ?_)
  refine aw_box (t := 23) (v := .agg #[.int .i64 c.gen, .int .i64 c.ep, .int .i64 c.ar, .int .i64 c.tl, .int .i64 c.nm, .int .i64 c.re, .int .i64 c.lo]) rfl ?_
  intro w1 hb1 hk1 hz1
  have Hb1 : Hid (Blk w1 w.heap.size (ctV c) 23) := hide hb1
  have Hk1 := hide hk1
  clear hb1 hz1 hk1
  refine lsW (wanted_none rfl) (r_assign (v := .bool false) rfl) ?_
  refine wpList_nil ?_
  refine wp_seq (wp_region_lit ?_)
  refine lsW (wanted_none rfl) (r_assign (v := .int .i64 2305843009213693952) rfl) ?_
  refine wpList_nil ?_
  refine wp_seq (wp_region_lit ?_)
  simp only [List.append_eq, List.cons_append, List.nil_append]
  refine hold_frame (p := fun fr => wpList _ _ _ _ fr _) ?_
  intro az haz
  have hSz : StR az w.heap.size := ⟨by rw [haz.out]; rfl, by rw [haz.out]; rfl, by rw [haz.out]; rfl, by rw [haz.out]; rfl⟩
  clear haz
  have hsz := hSz.size
  refine lsW (wanted_none rfl) (r_f23 (b := w.heap.size) (k := 0) (by decide) hSz.e1) ?_
  refine lsW (v := .int .i64 c.gen) (wanted_none rfl) (r_ld3 (b := w.heap.size) (o := 0) (eval_put_eq _ _ _ (by omega)) (by rw [Hb1.out.cell]; rfl)) ?_
  refine lsW (wanted_none rfl) (r_ge3 (i := c.gen) (j := 1) (eval_put_eq _ _ _ (by simp only [size_put]; omega)) rfl) ?_
  have hS0 := ((hSz.put (t := 4) (v := .pointer (some ⟨w.heap.size, 0, none⟩)) (by decide) (by decide)).put (t := 5) (v := .int .i64 c.gen) (by decide) (by decide)).put (t := 6) (v := .bool (decide (1 ≤ c.gen))) (by decide) (by decide)
  have hp0 : ((((az.put (some 4) (.pointer (some ⟨w.heap.size, 0, none⟩))).put (some 5) (.int .i64 c.gen)).put (some 6) (.bool (decide (1 ≤ c.gen))))).eval (.tmp 6) = .bool (decide (1 ≤ c.gen)) := eval_put_eq _ _ _ (by simp only [size_put]; omega)
  generalize (((az.put (some 4) (.pointer (some ⟨w.heap.size, 0, none⟩))).put (some 5) (.int .i64 c.gen)).put (some 6) (.bool (decide (1 ≤ c.gen)))) = a0 at hS0 hp0 ⊢
  clear hSz hsz
  refine andGrpM hS0 Hb1.out 3 6 7 8 9 10 11 12 0 (x := c.gen) (by decide) rfl hp0 (by decide) rfl ?_
  clear hS0 hp0
  intro a1 hS1 hp1
  refine andGrp hS1 Hb1.out 9 12 13 14 15 16 17 1 .geq 0 (x := c.ep) (q := decide (0 ≤ c.ep)) (by decide) rfl hp1 (by decide) (fun _ _ _ _ _ _ h => r_ge3 h rfl) rfl ?_
  clear hS1 hp1
  intro a2 hS2 hp2
  refine andGrp hS2 Hb1.out 14 17 18 19 20 21 22 1 .leq 4294967295 (x := c.ep) (q := decide (c.ep ≤ 4294967295)) (by decide) rfl hp2 (by decide) (fun _ _ _ _ _ _ h => r_le3 h rfl) rfl ?_
  clear hS2 hp2
  intro a3 hS3 hp3
  refine orGrp hS3 Hb1.out (x := c.ar) rfl hp3 rfl rfl ?_
  clear hS3 hp3
  intro a4 hS4 hp4
  refine andGrp hS4 Hb1.out 29 32 33 34 35 36 37 3 .geq 1 (x := c.tl) (q := decide (1 ≤ c.tl)) (by decide) rfl hp4 (by decide) (fun _ _ _ _ _ _ h => r_ge3 h rfl) rfl ?_
  clear hS4 hp4
  intro a5 hS5 hp5
  refine andGrp hS5 Hb1.out 34 37 38 39 40 41 42 3 .leq 2147483647 (x := c.tl) (q := decide (c.tl ≤ 2147483647)) (by decide) rfl hp5 (by decide) (fun _ _ _ _ _ _ h => r_le3 h rfl) rfl ?_
  clear hS5 hp5
  intro a6 hS6 hp6
  refine andGrp hS6 Hb1.out 39 42 43 44 45 46 47 4 .geq 0 (x := c.nm) (q := decide (0 ≤ c.nm)) (by decide) rfl hp6 (by decide) (fun _ _ _ _ _ _ h => r_ge3 h rfl) rfl ?_
  clear hS6 hp6
  intro a7 hS7 hp7
  refine andGrp hS7 Hb1.out 44 47 48 49 50 51 52 4 .leq 1099511627776 (x := c.nm) (q := decide (c.nm ≤ 1099511627776)) (by decide) rfl hp7 (by decide) (fun _ _ _ _ _ _ h => r_le3 h rfl) rfl ?_
  clear hS7 hp7
  intro a8 hS8 hp8
  refine andGrp hS8 Hb1.out 49 52 53 54 55 56 57 5 .geq 0 (x := c.re) (q := decide (0 ≤ c.re)) (by decide) rfl hp8 (by decide) (fun _ _ _ _ _ _ h => r_ge3 h rfl) rfl ?_
  clear hS8 hp8
  intro a9 hS9 hp9
  refine andGrpM hS9 Hb1.out 54 57 58 59 60 61 62 63 5 (x := c.re) (by decide) rfl hp9 (by decide) rfl ?_
  clear hS9 hp9
  intro a10 hS10 hp10
  refine andGrp hS10 Hb1.out 60 63 64 65 66 67 68 6 .geq 0 (x := c.lo) (q := decide (0 ≤ c.lo)) (by decide) rfl hp10 (by decide) (fun _ _ _ _ _ _ h => r_ge3 h rfl) rfl ?_
  clear hS10 hp10
  intro a11 hS11 hp11
  refine andGrpM hS11 Hb1.out 65 68 69 70 71 72 73 74 6 (x := c.lo) (by decide) rfl hp11 (by decide) rfl ?_
  clear hS11 hp11
  intro a12 hS12 hp12
  have hq : ((((((((((((decide (1 ≤ c.gen) && decide (c.gen ≤ 2305843009213693952)) && decide (0 ≤ c.ep)) && decide (c.ep ≤ 4294967295)) && (decide (c.ar = 0) || decide (c.ar = 1))) && decide (1 ≤ c.tl)) && decide (c.tl ≤ 2147483647)) && decide (0 ≤ c.nm)) && decide (c.nm ≤ 1099511627776)) && decide (0 ≤ c.re)) && decide (c.re ≤ 2305843009213693952)) && decide (0 ≤ c.lo)) && decide (c.lo ≤ 2305843009213693952)) = b := by
    rw [← HB.out, Bool.eq_iff_iff, rightC_iff]
    simp only [Bool.and_eq_true, Bool.or_eq_true, decide_eq_true_eq]
    omega
  rw [hq] at hp12
  clear hq
  refine lsW (wanted_none rfl) (r_assign hp12) ?_
  have e2 : (a12.put (some 2) (.bool b)).eval (.tmp 2) = .bool b := eval_put_eq _ _ _ (by rw [hS12.size]; decide)
  have hdf : (a12.put (some 2) (.bool b)).defers = [] := (put_defers _ _ _).trans hS12.defers
  refine wpList_nil ?_
  generalize (a12.put (some 2) (.bool b)) = az at e2 hdf ⊢
  refine wp_ret ?_
  refine bodyPost_ret (v := .bool b) ?_ hdf ⟨rfl, Hk1.out⟩
  exact (results_tmp rfl _ _ _).trans (by rw [show az.tmps.getD 2 undef = .bool b from e2])
end Go.Proofs.Ytapoagpkjngjpaa

/-
  The reference's Put.
-/
namespace Go.Proofs.Ytapoagpkjngjpaa
open Go.RowKit Go.Shelf
set_option linter.unusedSimpArgs false
set_option linter.unusedVariables false
set_option maxRecDepth 100000

set_option maxHeartbeats 8000000 in
theorem ctrput_at (w : World) (c : Ct) (hr : rightC c = true) : Calls Try.prog 8 #[ctAgg c] w fun e w' => e = .returned (.string (strN (putC c))) ∧ Kept (fun _ => False) w w' := by
  have hi := (rightC_iff c).1 hr
  have HRi := hide (frC_right hr)
  obtain ⟨g, ep, ar, tl, nm, re, lo⟩ := c
  simp only [] at hi
  obtain ⟨na, rfl⟩ : ∃ n : Nat, ar = n := ⟨ar.toNat, by omega⟩
  obtain ⟨nt, rfl⟩ : ∃ n : Nat, tl = n := ⟨tl.toNat, by omega⟩
  obtain ⟨nn, rfl⟩ : ∃ n : Nat, nm = n := ⟨nm.toNat, by omega⟩
  obtain ⟨nr, rfl⟩ : ∃ n : Nat, re = n := ⟨re.toNat, by omega⟩
  obtain ⟨nl, rfl⟩ : ∃ n : Nat, lo = n := ⟨lo.toNat, by omega⟩
  have HI := hide hi
  obtain ⟨c, hc⟩ : ∃ c : Ct, c = ⟨g, ep, na, nt, nn, nr, nl⟩ := ⟨_, rfl⟩
  have HBd : Hid ((((numB na 1 ++ numB nt 4) ++ numB nn 8) ++ numB nr 8) ++ numB nl 8 = bodyC c) := hide (by rw [hc]; simp [bodyC])
  have HGe : Hid (c.gen = g ∧ c.ep = ep) := hide (by rw [hc]; exact ⟨rfl, rfl⟩)
  have HCe : Hid (ctV ⟨g, ep, na, nt, nn, nr, nl⟩ = ctV c) := hide (by rw [hc])
  rw [← hc] at HRi
  rw [show putC ⟨g, ep, na, nt, nn, nr, nl⟩ = putC c by rw [hc]]
  clear hi hr hc
  unfold ctAgg
  simp only []
  go_enter Try.func8, Try.ntmps8
  go_wp2_with (first
    | ((with_reducible refine aw_box (t := 23) (v := .agg #[.int .i64 g, .int .i64 ep, .int .i64 (na : Nat), .int .i64 (nt : Nat), .int .i64 (nn : Nat), .int .i64 (nr : Nat), .int .i64 (nl : Nat)]) rfl ?_); intro w1 hb1 hk1 hz1; have HB : Hid (Blk w1 w.heap.size (ctV ⟨g, ep, na, nt, nn, nr, nl⟩) 23) := hide hb1; clear hz1 hb1)
    | fail)
  obtain ⟨b1, hbe⟩ : ∃ b1, b1 = w.heap.size := ⟨_, rfl⟩
  rw [← hbe] at HB ⊢
  have HK1 := hide hk1
  clear hk1 hbe
  refine hold_frame (p := fun fr => Code.wp Try.prog _ _ fr _) ?_
  intro fr hfr
  have e1 : fr.eval (.tmp 1) = .pointer (some ⟨b1, 0, none⟩) := by rw [hfr.out]; rfl
  have hts : fr.tmps.size = 31 := by rw [hfr.out]; rfl
  refine region_S0 99 Try.mixed ?_
  intro w0 hkw hheap
  have HB0 := hide (hkw.blk HB.out (fun h => h))
  have hS0 : Kept (fun _ => False) w0 w0 := Kept.refl (fun _ => False) w0
  refine ⟨Kept (fun _ => False) w0, ?_⟩
  refine tkS 0 4 (v := .pointer (some ⟨b1, 2, none⟩)) hS0 rfl rfl (by kernel_rfl) (by kernel_rfl) (by kernel_rfl) (by kernel_rfl) (wanted_none rfl) (fun _ _ _ h => h) (fun U hU => r_f23 (b := b1) (k := 2) (by decide) (by simp [eval_put_ne, eval_put_eq, size_put, hts, e1])) ?_
  refine tkS 1 5 (v := .int .i64 (na : Nat)) hS0 rfl rfl (by kernel_rfl) (by kernel_rfl) (by kernel_rfl) (by kernel_rfl) (wanted_none rfl) (fun _ _ _ h => h) (fun U hU => r_ld3 (b := b1) (o := 2) (by simp [eval_put_ne, eval_put_eq, size_put, hts]) ((((hS0).trans hU (fun _ _ h => h)).blk HB0.out (fun h => h)).cell 2)) ?_
  refine tkS 3 7 (v := .pointer (some ⟨b1, 3, none⟩)) hS0 rfl rfl (by kernel_rfl) (by kernel_rfl) (by kernel_rfl) (by kernel_rfl) (wanted_none rfl) (fun _ _ _ h => h) (fun U hU => r_f23 (b := b1) (k := 3) (by decide) (by simp [eval_put_ne, eval_put_eq, size_put, hts, e1])) ?_
  refine tkS 4 8 (v := .int .i64 (nt : Nat)) hS0 rfl rfl (by kernel_rfl) (by kernel_rfl) (by kernel_rfl) (by kernel_rfl) (wanted_none rfl) (fun _ _ _ h => h) (fun U hU => r_ld3 (b := b1) (o := 3) (by simp [eval_put_ne, eval_put_eq, size_put, hts]) ((((hS0).trans hU (fun _ _ h => h)).blk HB0.out (fun h => h)).cell 3)) ?_
  refine tkS 7 11 (v := .pointer (some ⟨b1, 4, none⟩)) hS0 rfl rfl (by kernel_rfl) (by kernel_rfl) (by kernel_rfl) (by kernel_rfl) (wanted_none rfl) (fun _ _ _ h => h) (fun U hU => r_f23 (b := b1) (k := 4) (by decide) (by simp [eval_put_ne, eval_put_eq, size_put, hts, e1])) ?_
  refine tkS 8 12 (v := .int .i64 (nn : Nat)) hS0 rfl rfl (by kernel_rfl) (by kernel_rfl) (by kernel_rfl) (by kernel_rfl) (wanted_none rfl) (fun _ _ _ h => h) (fun U hU => r_ld3 (b := b1) (o := 4) (by simp [eval_put_ne, eval_put_eq, size_put, hts]) ((((hS0).trans hU (fun _ _ h => h)).blk HB0.out (fun h => h)).cell 4)) ?_
  refine tkS 11 15 (v := .pointer (some ⟨b1, 5, none⟩)) hS0 rfl rfl (by kernel_rfl) (by kernel_rfl) (by kernel_rfl) (by kernel_rfl) (wanted_none rfl) (fun _ _ _ h => h) (fun U hU => r_f23 (b := b1) (k := 5) (by decide) (by simp [eval_put_ne, eval_put_eq, size_put, hts, e1])) ?_
  refine tkS 12 16 (v := .int .i64 (nr : Nat)) hS0 rfl rfl (by kernel_rfl) (by kernel_rfl) (by kernel_rfl) (by kernel_rfl) (wanted_none rfl) (fun _ _ _ h => h) (fun U hU => r_ld3 (b := b1) (o := 5) (by simp [eval_put_ne, eval_put_eq, size_put, hts]) ((((hS0).trans hU (fun _ _ h => h)).blk HB0.out (fun h => h)).cell 5)) ?_
  refine tkS 15 19 (v := .pointer (some ⟨b1, 6, none⟩)) hS0 rfl rfl (by kernel_rfl) (by kernel_rfl) (by kernel_rfl) (by kernel_rfl) (wanted_none rfl) (fun _ _ _ h => h) (fun U hU => r_f23 (b := b1) (k := 6) (by decide) (by simp [eval_put_ne, eval_put_eq, size_put, hts, e1])) ?_
  refine tkS 16 20 (v := .int .i64 (nl : Nat)) hS0 rfl rfl (by kernel_rfl) (by kernel_rfl) (by kernel_rfl) (by kernel_rfl) (wanted_none rfl) (fun _ _ _ h => h) (fun U hU => r_ld3 (b := b1) (o := 6) (by simp [eval_put_ne, eval_put_eq, size_put, hts]) ((((hS0).trans hU (fun _ _ h => h)).blk HB0.out (fun h => h)).cell 6)) ?_
  refine oneCS 2 6 (by kernel_rfl) rfl rfl (wanted_none rfl) (r_call2 Try.func19 (by kernel_rfl) rfl rfl (by simp [eval_put_ne, eval_put_eq, size_put, hts]) rfl) (rnum_at 1 (by decide) w0 na (by have := HI.out; omega)) ?_
  rintro e v1 ⟨rfl, k1⟩
  have hS1 : Kept (fun _ => False) w0 v1 := k1
  refine ⟨_, rfl, hS1, ?_⟩
  refine oneCS 5 9 (by kernel_rfl) rfl rfl (wanted_none rfl) (r_call2 Try.func19 (by kernel_rfl) rfl rfl (by simp [eval_put_ne, eval_put_eq, size_put, hts]) rfl) (rnum_at 4 (by decide) v1 nt (by have := HI.out; omega)) ?_
  rintro e v2 ⟨rfl, k2⟩
  have hS2 : Kept (fun _ => False) w0 v2 := hS1.trans k2 (fun _ _ h => h)
  refine ⟨_, rfl, hS2, ?_⟩
  refine tkS 6 10 (v := .string (strN (numB na 1 ++ numB nt 4))) hS2 rfl rfl (by kernel_rfl) (by kernel_rfl) (by kernel_rfl) (by kernel_rfl) (wanted_none rfl) (fun _ _ _ h => h) (fun U hU => r_add9 (A := numB na 1) (B := numB nt 4) (by simp [numB_length]) (by simp [eval_put_ne, eval_put_eq, size_put, hts]) (by simp [eval_put_ne, eval_put_eq, size_put, hts])) ?_
  refine oneCS 9 13 (by kernel_rfl) rfl rfl (wanted_none rfl) (r_call2 Try.func19 (by kernel_rfl) rfl rfl (by simp [eval_put_ne, eval_put_eq, size_put, hts]) rfl) (rnum_at 8 (by decide) v2 nn (by have := HI.out; omega)) ?_
  rintro e v3 ⟨rfl, k3⟩
  have hS3 : Kept (fun _ => False) w0 v3 := hS2.trans k3 (fun _ _ h => h)
  refine ⟨_, rfl, hS3, ?_⟩
  refine tkS 10 14 (v := .string (strN ((numB na 1 ++ numB nt 4) ++ numB nn 8))) hS3 rfl rfl (by kernel_rfl) (by kernel_rfl) (by kernel_rfl) (by kernel_rfl) (wanted_none rfl) (fun _ _ _ h => h) (fun U hU => r_add9 (A := (numB na 1 ++ numB nt 4)) (B := numB nn 8) (by simp [numB_length]) (by simp [eval_put_ne, eval_put_eq, size_put, hts]) (by simp [eval_put_ne, eval_put_eq, size_put, hts])) ?_
  refine oneCS 13 17 (by kernel_rfl) rfl rfl (wanted_none rfl) (r_call2 Try.func19 (by kernel_rfl) rfl rfl (by simp [eval_put_ne, eval_put_eq, size_put, hts]) rfl) (rnum_at 8 (by decide) v3 nr (by have := HI.out; omega)) ?_
  rintro e v4 ⟨rfl, k4⟩
  have hS4 : Kept (fun _ => False) w0 v4 := hS3.trans k4 (fun _ _ h => h)
  refine ⟨_, rfl, hS4, ?_⟩
  refine tkS 14 18 (v := .string (strN (((numB na 1 ++ numB nt 4) ++ numB nn 8) ++ numB nr 8))) hS4 rfl rfl (by kernel_rfl) (by kernel_rfl) (by kernel_rfl) (by kernel_rfl) (wanted_none rfl) (fun _ _ _ h => h) (fun U hU => r_add9 (A := ((numB na 1 ++ numB nt 4) ++ numB nn 8)) (B := numB nr 8) (by simp [numB_length]) (by simp [eval_put_ne, eval_put_eq, size_put, hts]) (by simp [eval_put_ne, eval_put_eq, size_put, hts])) ?_
  refine oneCS 17 21 (by kernel_rfl) rfl rfl (wanted_none rfl) (r_call2 Try.func19 (by kernel_rfl) rfl rfl (by simp [eval_put_ne, eval_put_eq, size_put, hts]) rfl) (rnum_at 8 (by decide) v4 nl (by have := HI.out; omega)) ?_
  rintro e v5 ⟨rfl, k5⟩
  have hS5 : Kept (fun _ => False) w0 v5 := hS4.trans k5 (fun _ _ h => h)
  refine ⟨_, rfl, hS5, ?_⟩
  refine tkS 18 22 (v := .string (strN ((((numB na 1 ++ numB nt 4) ++ numB nn 8) ++ numB nr 8) ++ numB nl 8))) hS5 rfl rfl (by kernel_rfl) (by kernel_rfl) (by kernel_rfl) (by kernel_rfl) (wanted_none rfl) (fun _ _ _ h => h) (fun U hU => r_add9 (A := (((numB na 1 ++ numB nt 4) ++ numB nn 8) ++ numB nr 8)) (B := numB nl 8) (by simp [numB_length]) (by simp [eval_put_ne, eval_put_eq, size_put, hts]) (by simp [eval_put_ne, eval_put_eq, size_put, hts])) ?_
  refine tkS 19 3 (v := .string (strN ((((numB na 1 ++ numB nt 4) ++ numB nn 8) ++ numB nr 8) ++ numB nl 8))) hS5 rfl rfl (by kernel_rfl) (by kernel_rfl) (by kernel_rfl) (by kernel_rfl) (wanted_none rfl) (fun _ _ _ h => h) (fun U hU => r_assign (by simp [eval_put_ne, eval_put_eq, size_put, hts])) ?_
  refine doneS (by kernel_rfl) ?_
  rw [hfr.out]
  clear hfr e1 hts
  simp only [put_lit, put_none, List.set_cons_succ, List.set_cons_zero]

  rw [HBd.out]
  have HKw := hide ((HK1.out.trans hkw (fun _ _ h => h)).trans hS5 (fun _ _ h => h))
  have c0 : v5.cell? ⟨b1, 0, none⟩ = some (.int .i64 g) := (hS5.blk HB0.out (fun h => h)).cell 0
  have c1 : v5.cell? ⟨b1, 1, none⟩ = some (.int .i64 ep) := (hS5.blk HB0.out (fun h => h)).cell 1
  clear hS0 hS1 hS2 hS3 hS4 hS5 k1 k2 k3 k4 k5 hkw hheap HB0 HB HK1
  have HBl := hide (bodyC_lt c)
  go_wp2_with (first
    | ((with_reducible refine aw_bytesN HBl.out rfl ?_); intro w6 cap hs6 hk6)
    | ((with_reducible refine stop_build 51 ?_))
    | fail)
  refine hide ?_
  refine wpList_run rfl (r_build51c c _ _ _ (by rw [HGe.out.1]; rfl) (by rw [HGe.out.2]; rfl) rfl rfl) ?_
  have HP := hide (rput_at w6 (frC c) _ hs6 HRi.out)
  have HK6 := hide (HKw.out.trans hk6 (fun _ _ h => h))
  clear hs6 hk6 c0 c1
  go_wp2_with fail
  refine HP.out.mono ?_
  rintro e w7 ⟨rfl, hk7⟩
  go_wp2
  go_ret
  exact ⟨rfl, HK6.out.trans hk7 (fun _ _ h => h)⟩
end Go.Proofs.Ytapoagpkjngjpaa

/-
  The reference's Get.
-/
namespace Go.Proofs.Ytapoagpkjngjpaa
open Go.RowKit Go.Shelf
set_option linter.unusedSimpArgs false
set_option linter.unusedVariables false
set_option maxRecDepth 100000

section
variable {ρ : Operand → Value} {w : World} {dst : Option Tmp} {ty : TypeId} {pos : String} {aft : Array Edge} {gd : Option (Nat × Bool)} {x y : Operand}
theorem r_ctne {i j : Int} {b : Bool} (hx : ρ x = .int .i64 i) (hy : ρ y = .int .i64 j) (hb : (i != j) = b) : (execOp ρ ⟨dst, .binOp .neq 3 x y 3, ty, pos, aft, gd⟩).run Try.prog w = .ok (.value (.bool b)) w := by
  subst hb
  go_simp
  try rfl
theorem r_ctne9 {A B : List Nat} {b : Bool} (hx : ρ x = .string (strN A)) (hy : ρ y = .string (strN B)) (hb : (!decide (strN A = strN B)) = b) : (execOp ρ ⟨dst, .binOp .neq 9 x y 9, ty, pos, aft, gd⟩).run Try.prog w = .ok (.value (.bool b)) w := by
  have h := r_neq9 (dst := dst) (ty := ty) (pos := pos) (aft := aft) (gd := gd) (w := w) hx hy
  rw [h, ← hb]
  by_cases e : strN A = strN B <;> simp [e]
theorem built23_2 (a b : Int) : Try.prog.built 23 [(0, .int .i64 a), (1, .int .i64 b)] = some (ctV ⟨a, b, 0, 0, 0, 0, 0⟩).toArray := by kernel_rfl
theorem r_build23_2 {x0 x1 : Operand} {a b : Int} (h0 : ρ x0 = .int .i64 a) (h1 : ρ x1 = .int .i64 b) :
    (execOp ρ ⟨dst, .build 23 #[(0, x0), (1, x1)], ty, pos, aft, gd⟩).run Try.prog w = .ok (.value (.agg (ctV ⟨a, b, 0, 0, 0, 0, 0⟩).toArray)) w := by
  have hr := run_build (P := Try.prog) w 23 #[(0, .int .i64 a), (1, .int .i64 b)] _ (by simpa using built23_2 a b)
  simp [execOp, h0, h1, hr]
end
theorem Try.info63c : (Try.prog.info? 63).map (fun i => (i.zero, i.size, i.bytes)) = some (some (.agg #[.string ⟨#[]⟩, .int .i64 0]), 2, 24) := by kernel_rfl

set_option maxHeartbeats 8000000 in
theorem ctrget_at (w : World) (v : Value) (b : List Nat) (hs : Src w v b) (hl : b.length ≤ 9223372036854775807) :
    Calls Try.prog 10 #[v] w fun e w' => e = .returned (.tuple #[ctAgg (refgetC b).1, .int .i64 (refgetC b).2]) ∧ Kept (fun _ => False) w w' := by
  obtain ⟨i23, hi23, hz23, hs23, hb23⟩ := info_parts Try.info23
  have Hi23 := hide hi23
  have Hz23 := hide hz23
  obtain ⟨i51, hi51, hz51, hs51, hb51⟩ := info_parts Try.info51
  have Hi51 := hide hi51
  have Hz51 := hide hz51
  obtain ⟨i3, hi3, hz3, hs3, hb3⟩ := info_parts Try.info3
  have Hi3 := hide hi3
  have Hs3 := hide hs3
  obtain ⟨f, hf⟩ : ∃ f, f = (getN b).1 := ⟨_, rfl⟩
  obtain ⟨er, her⟩ : ∃ er, er = (getN b).2 := ⟨_, rfl⟩
  have hfl : f.B.length ≤ 40 := by
    rw [hf]
    by_cases h0 : (getN b).2 = 0
    · exact ((rightN_iff _).1 (getN_right h0)).2.2.2.2.1
    · rw [(getN_err h0).1]; decide
  have hfB : ∀ x ∈ f.B, x < 256 := by rw [hf]; exact getN_B hs.lt
  obtain ⟨n0, B0, E0, q0⟩ : ∃ n B E, scanNum f.B 0 1 = (n, B, E) := ⟨_, _, _, rfl⟩
  obtain ⟨n1, B1, E1, q1⟩ : ∃ n B E, scanNum B0 E0 4 = (n, B, E) := ⟨_, _, _, rfl⟩
  obtain ⟨n2, B2, E2, q2⟩ : ∃ n B E, scanNum B1 E1 8 = (n, B, E) := ⟨_, _, _, rfl⟩
  obtain ⟨n3, B3, E3, q3⟩ : ∃ n B E, scanNum B2 E2 8 = (n, B, E) := ⟨_, _, _, rfl⟩
  obtain ⟨n4, B4, E4, q4⟩ : ∃ n B E, scanNum B3 E3 8 = (n, B, E) := ⟨_, _, _, rfl⟩
  have k0 : B0.length ≤ f.B.length := by have := scanNum_len f.B 0 1; rw [q0] at this; exact this
  have k1 : B1.length ≤ B0.length := by have := scanNum_len B0 E0 4; rw [q1] at this; exact this
  have k2 : B2.length ≤ B1.length := by have := scanNum_len B1 E1 8; rw [q2] at this; exact this
  have k3 : B3.length ≤ B2.length := by have := scanNum_len B2 E2 8; rw [q3] at this; exact this
  have l0 : ∀ x ∈ B0, x < 256 := by have := scanNum_lt (E := 0) (w := 1) hfB; rw [q0] at this; exact this
  have l1 : ∀ x ∈ B1, x < 256 := by have := scanNum_lt (E := E0) (w := 4) l0; rw [q1] at this; exact this
  have l2 : ∀ x ∈ B2, x < 256 := by have := scanNum_lt (E := E1) (w := 8) l1; rw [q2] at this; exact this
  have l3 : ∀ x ∈ B3, x < 256 := by have := scanNum_lt (E := E2) (w := 8) l2; rw [q3] at this; exact this
  obtain ⟨ct, hct⟩ : ∃ c : Ct, c = ⟨f.lsn, f.ep, n0, n1, n2, n3, n4⟩ := ⟨_, rfl⟩
  have hsc : scanC f.lsn f.ep f.B = (ct, B4, E4) := by
    unfold scanC
    rw [q0]; simp only []
    rw [q1]; simp only []
    rw [q2]; simp only []
    rw [q3]; simp only []
    rw [q4, hct]
  have hgc : refgetC b = if er ≠ 0 then (ct0, er) else if E4 ≠ 0 ∨ rightC ct = false ∨ putC ct ≠ b then (ct0, 20) else (ct, 0) := by
    unfold refgetC
    rw [← hf, ← her, hsc]
  have HGC := hide hgc
  have HG : Hid (∀ w, Src w v b → Calls Try.prog 26 #[v] w fun e w' => ∃ vb, e = .returned (.tuple #[frAgg f vb, .int .i64 er]) ∧ Src w' vb f.B ∧ Kept (fun _ => False) w w') := hide (fun w h => by rw [hf, her, get_eq_ref hs.lt]; exact rget_at w v b h hl)
  have G0 : Hid (f.B.length ≤ 1000000) := hide (by omega)
  have G1 : Hid (B0.length ≤ 1000000) := hide (by omega)
  have G2 : Hid (B1.length ≤ 1000000) := hide (by omega)
  have G3 : Hid (B2.length ≤ 1000000) := hide (by omega)
  have G4 : Hid (B3.length ≤ 1000000) := hide (by omega)
  have HBl0 := hide hfB
  have HBl1 := hide l0
  have HBl2 := hide l1
  have HBl3 := hide l2
  have HBl4 := hide l3
  have HQ0 := hide q0
  have HQ1 := hide q1
  have HQ2 := hide q2
  have HQ3 := hide q3
  have HQ4 := hide q4
  have HCT := hide hct
  have HS := hide hs
  have HBb := hide hs.lt
  obtain ⟨fl, hflE⟩ : ∃ n, n = f.B.length := ⟨_, rfl⟩
  have HflE := hide hflE
  clear hi23 hz23 hs23 hb23 hi51 hz51 hs51 hb51 hi3 hz3 hs3 hb3 hf her hfl hfB q0 q1 q2 q3 q4 k0 k1 k2 k3 l0 l1 l2 l3 hct hsc hgc hl hflE
  obtain ⟨bo, cap, rfl⟩ := hs.slice
  obtain ⟨bl, hbl⟩ : ∃ n, n = b.length := ⟨_, rfl⟩
  rw [← hbl] at HG HS ⊢
  clear hs hbl
  go_enter Try.func10, Try.ntmps10
  go_wp2_with (first
    | ((with_reducible refine aw_alloc (dst := some 2) Hi23.out Hz23.out ?_); intro w1 hb1 hk1 hz1)
    | fail)
  refine (HG.out w1 (HS.out.kept hk1)).mono ?_
  rintro e w2 ⟨vb, rfl, hsb, hk2⟩
  obtain ⟨fo, fc, rfl⟩ := hsb.slice
  rw [← HflE.out] at hsb ⊢
  have HB2a : Hid (Blk w2 w.heap.size (ctV ct0) 23) := hide (hk2.blk hb1 (fun h => h))
  have HK2 := hide (hk1.trans hk2 (fun _ _ h => h))
  have HSf := hide hsb
  have HOf := hide (frV_one f fo fl fc)
  obtain ⟨b2, hb2⟩ : ∃ x, x = w.heap.size := ⟨_, rfl⟩
  rw [← hb2] at HB2a ⊢
  have HL2 : Hid (w.heap.size ≤ b2) := hide (by omega)
  clear hb1 hk1 hk2 hz1 hsb hb2 HG
  by_cases h0 : er = 0
  case neg =>
    go_wp2_with (first
      | ((with_reducible refine aw_alloc (dst := some 4) Hi51.out Hz51.out ?_); intro w3 hb3 hk3 hz3; have Yz3 := hide hz3; clear hz3)
      | ((with_reducible refine aw_store (x := .tmp 4) (M := frV f (.slice fo fl fc)) Try.agg51 rfl rfl rfl HOf.out hb3 (by simp [Value.cells]) ?_); intro w4 hw4 hk4 hz4; have Yz4 := hide hz4; clear hz4; rw [put_whole _ _ (by simp [Value.cells, frV])] at hw4)
      | ((with_reducible refine wpList_run rfl r_build23_0 ?_))
      | ((with_reducible refine aw_store (x := .tmp 2) (M := ctV ct0) Try.agg23 rfl rfl rfl (ctV_one ct0) (hk4.blk (hk3.blk HB2a.out (fun h => h)) (by have := HB2a.out.lt; omega)) (by simp [ctV]) ?_); intro w8 hw8 hk8 hz8; rw [put_whole _ _ (by simp [ctV])] at hw8)
      | fail)
    refine bodyPost_ret (results_cell2 (t := 2) (u := 3) (ty := 23) rfl Try.agg23 rfl hw8 rfl) rfl ?_
    rw [show refgetC b = (ct0, er) from by rw [HGC.out, if_pos h0]]
    exact ⟨rfl, ((HK2.out.trans hk3 (fun _ _ h => h)).trans hk4 (fun i hi h => by have := HK2.out.size; omega)).trans hk8 (fun i hi h => by have := HL2.out; omega)⟩
  case pos =>
  subst h0
  go_wp2_with (first
    | ((with_reducible refine aw_alloc (dst := some 4) Hi51.out Hz51.out ?_); intro w3 hb3 hk3 hz3; have Yz3 := hide hz3; clear hz3)
    | ((with_reducible refine aw_store (x := .tmp 4) (M := frV f (.slice fo fl fc)) Try.agg51 rfl rfl rfl HOf.out hb3 (by simp [Value.cells]) ?_); intro w4 hw4 hk4 hz4; have Yz4 := hide hz4; clear hz4; rw [put_whole _ _ (by simp [Value.cells, frV])] at hw4; have c4 : w4.cell? ⟨w2.heap.size, 4, none⟩ = some (.slice fo fl fc) := hw4.cell 4)
    | (with_reducible refine stop_convert 24 9 ?_)
    | fail)
  refine hide ?_
  have hk34 : Kept (fun _ => False) w2 w4 := hk3.trans hk4 (fun i hi h => by omega)
  refine wpList_run rfl (r_strS rfl (HSf.out.kept hk34)) ?_
  have HB2b := hide (hk34.blk HB2a.out (fun h => h))
  have HK4 := hide (HK2.out.trans hk34 (fun _ _ h => h))
  have HB4 := hide hw4
  clear hb3 hk3 hk4 hk34 c4 HB2a HK2 HSf HOf
  have c0 : w4.cell? ⟨w2.heap.size, 0, none⟩ = some (.int .i64 f.lsn) := HB4.out.cell 0
  have c1 : w4.cell? ⟨w2.heap.size, 1, none⟩ = some (.int .i64 f.ep) := HB4.out.cell 1
  go_wp2_with (first
    | ((with_reducible refine wpList_run rfl (r_build55 rfl) ?_))
    | ((with_reducible refine aw_box (t := 63) (v := .agg #[.string (strN f.B), .int .i64 0]) rfl ?_); intro w5 hb5 hk5 hz5; have Yz5 := hide hz5; clear hz5; have d0 : w5.cell? ⟨w2.heap.size, 0, none⟩ = some (.int .i64 f.lsn) := (hk5.blk HB4.out (fun h => h)).cell 0; have d1 : w5.cell? ⟨w2.heap.size, 1, none⟩ = some (.int .i64 f.ep) := (hk5.blk HB4.out (fun h => h)).cell 1)
    | ((with_reducible refine wpList_run rfl (r_build23_2 (a := f.lsn) (b := f.ep) rfl rfl) ?_))
    | ((with_reducible refine aw_alloc (dst := some 7) Hi23.out Hz23.out ?_); intro w6 hb6 hk6 hz6; have Yz6 := hide hz6; clear hz6)
    | ((with_reducible refine aw_store (x := .tmp 7) (M := ctV ⟨f.lsn, f.ep, 0, 0, 0, 0, 0⟩) Try.agg23 rfl rfl rfl (ctV_one _) hb6 (by simp [Value.cells]) ?_); intro w7 hw7 hk7 hz7; have Yz7 := hide hz7; clear hz7; rw [put_whole _ _ (by simp [Value.cells, ctV])] at hw7)
    | fail)
  have hk57 : Kept (fun _ => False) w5 w7 := hk6.trans hk7 (fun i hi h => by omega)
  obtain ⟨x6, hx6⟩ : ∃ x, x = w4.heap.size := ⟨_, rfl⟩
  obtain ⟨b7, hb7⟩ : ∃ x, x = w5.heap.size := ⟨_, rfl⟩
  rw [← hb7] at hw7 ⊢
  have HX : Hid (RefAt w7 x6 f.B 0) := hide (by rw [hx6]; exact hk57.blk hb5 (fun h => h))
  rw [← hx6] at hb5 ⊢
  have HC := hide hw7
  have HB2 := hide (hk57.blk (hk5.blk HB2b.out (fun h => h)) (fun h => h))
  have HK := hide ((HK4.out.trans hk5 (fun _ _ h => h)).trans hk57 (fun _ _ h => h))
  have HNe : Hid (¬ b7 = x6) := hide (by have := hb5.lt; omega)
  have HNe2 : Hid (¬ b2 = x6) := hide (by have := HB2b.out.lt; omega)
  have HLx : Hid (w.heap.size ≤ x6) := hide (by have := HK4.out.size; omega)
  have HL7 : Hid (w.heap.size ≤ b7) := hide (by have := HK4.out.size; have := hk5.size; omega)
  have HN27 : Hid (¬ b2 = b7) := hide (by have := (hk5.blk HB2b.out (fun h => h)).lt; omega)
  have HNx7 : Hid (¬ x6 = b7) := hide (by have := hb5.lt; omega)
  clear hb5 hk5 hb6 hk6 hk7 hw7 hk57 hx6 hb7 c0 c1 d0 d1 HB2b HB4 HK4 Yz3 Yz4 Yz5 Yz6 Yz7
  go_wp2_with fail
  refine (refnum_q HX.out HBl0.out (by have := G0.out; omega) 1 (by decide) HQ0.out).mono ?_
  rintro e u0 ⟨rfl, hx, hk⟩
  have HXn := hide hx
  have HCn := hide (hk.blk HC.out HNe.out)
  have HB2n := hide (hk.blk HB2.out HNe2.out)
  have HKn := hide (HK.out.trans hk (fun i hi h => by have := HLx.out; omega))
  clear hx hk HX HC HB2 HK
  go_wp2_with (first
    | (with_reducible refine stop_store 3 ?_)
    | fail)
  refine hide ?_
  refine aw_store1 (off := 2) (v := .int .i64 n0) Hi3.out Hs3.out rfl rfl rfl rfl HCn.out (by simp [ctV]) ?_
  intro y0 hbn hkn hzn
  have HC : Hid (Blk y0 b7 (ctV ⟨f.lsn, f.ep, n0, 0, 0, 0, 0⟩) 23) := hide hbn
  have HX : Hid (RefAt y0 x6 B0 E0) := hide (hkn.blk HXn.out HNx7.out)
  have HB2 := hide (hkn.blk HB2n.out HN27.out)
  have HK := hide (HKn.out.trans hkn (fun i hi h => by have := HL7.out; omega))
  clear hbn hkn hzn HXn HCn HB2n HKn
  go_wp2_with fail
  refine (refnum_q HX.out HBl1.out (by have := G1.out; omega) 4 (by decide) HQ1.out).mono ?_
  rintro e u1 ⟨rfl, hx, hk⟩
  have HXn := hide hx
  have HCn := hide (hk.blk HC.out HNe.out)
  have HB2n := hide (hk.blk HB2.out HNe2.out)
  have HKn := hide (HK.out.trans hk (fun i hi h => by have := HLx.out; omega))
  clear hx hk HX HC HB2 HK
  go_wp2_with (first
    | (with_reducible refine stop_store 3 ?_)
    | fail)
  refine hide ?_
  refine aw_store1 (off := 3) (v := .int .i64 n1) Hi3.out Hs3.out rfl rfl rfl rfl HCn.out (by simp [ctV]) ?_
  intro y1 hbn hkn hzn
  have HC : Hid (Blk y1 b7 (ctV ⟨f.lsn, f.ep, n0, n1, 0, 0, 0⟩) 23) := hide hbn
  have HX : Hid (RefAt y1 x6 B1 E1) := hide (hkn.blk HXn.out HNx7.out)
  have HB2 := hide (hkn.blk HB2n.out HN27.out)
  have HK := hide (HKn.out.trans hkn (fun i hi h => by have := HL7.out; omega))
  clear hbn hkn hzn HXn HCn HB2n HKn
  go_wp2_with fail
  refine (refnum_q HX.out HBl2.out (by have := G2.out; omega) 8 (by decide) HQ2.out).mono ?_
  rintro e u2 ⟨rfl, hx, hk⟩
  have HXn := hide hx
  have HCn := hide (hk.blk HC.out HNe.out)
  have HB2n := hide (hk.blk HB2.out HNe2.out)
  have HKn := hide (HK.out.trans hk (fun i hi h => by have := HLx.out; omega))
  clear hx hk HX HC HB2 HK
  go_wp2_with (first
    | (with_reducible refine stop_store 3 ?_)
    | fail)
  refine hide ?_
  refine aw_store1 (off := 4) (v := .int .i64 n2) Hi3.out Hs3.out rfl rfl rfl rfl HCn.out (by simp [ctV]) ?_
  intro y2 hbn hkn hzn
  have HC : Hid (Blk y2 b7 (ctV ⟨f.lsn, f.ep, n0, n1, n2, 0, 0⟩) 23) := hide hbn
  have HX : Hid (RefAt y2 x6 B2 E2) := hide (hkn.blk HXn.out HNx7.out)
  have HB2 := hide (hkn.blk HB2n.out HN27.out)
  have HK := hide (HKn.out.trans hkn (fun i hi h => by have := HL7.out; omega))
  clear hbn hkn hzn HXn HCn HB2n HKn
  go_wp2_with fail
  refine (refnum_q HX.out HBl3.out (by have := G3.out; omega) 8 (by decide) HQ3.out).mono ?_
  rintro e u3 ⟨rfl, hx, hk⟩
  have HXn := hide hx
  have HCn := hide (hk.blk HC.out HNe.out)
  have HB2n := hide (hk.blk HB2.out HNe2.out)
  have HKn := hide (HK.out.trans hk (fun i hi h => by have := HLx.out; omega))
  clear hx hk HX HC HB2 HK
  go_wp2_with (first
    | (with_reducible refine stop_store 3 ?_)
    | fail)
  refine hide ?_
  refine aw_store1 (off := 5) (v := .int .i64 n3) Hi3.out Hs3.out rfl rfl rfl rfl HCn.out (by simp [ctV]) ?_
  intro y3 hbn hkn hzn
  have HC : Hid (Blk y3 b7 (ctV ⟨f.lsn, f.ep, n0, n1, n2, n3, 0⟩) 23) := hide hbn
  have HX : Hid (RefAt y3 x6 B3 E3) := hide (hkn.blk HXn.out HNx7.out)
  have HB2 := hide (hkn.blk HB2n.out HN27.out)
  have HK := hide (HKn.out.trans hkn (fun i hi h => by have := HL7.out; omega))
  clear hbn hkn hzn HXn HCn HB2n HKn
  go_wp2_with fail
  refine (refnum_q HX.out HBl4.out (by have := G4.out; omega) 8 (by decide) HQ4.out).mono ?_
  rintro e u4 ⟨rfl, hx, hk⟩
  have HXn := hide hx
  have HCn := hide (hk.blk HC.out HNe.out)
  have HB2n := hide (hk.blk HB2.out HNe2.out)
  have HKn := hide (HK.out.trans hk (fun i hi h => by have := HLx.out; omega))
  clear hx hk HX HC HB2 HK
  go_wp2_with (first
    | (with_reducible refine stop_store 3 ?_)
    | fail)
  refine hide ?_
  refine aw_store1 (off := 6) (v := .int .i64 n4) Hi3.out Hs3.out rfl rfl rfl rfl HCn.out (by simp [ctV]) ?_
  intro y4 hbn hkn hzn
  have HC : Hid (Blk y4 b7 (ctV ⟨f.lsn, f.ep, n0, n1, n2, n3, n4⟩) 23) := hide hbn
  have HX : Hid (RefAt y4 x6 B4 E4) := hide (hkn.blk HXn.out HNx7.out)
  have HB2 := hide (hkn.blk HB2n.out HN27.out)
  have HK := hide (HKn.out.trans hkn (fun i hi h => by have := HL7.out; omega))
  clear hbn hkn hzn HXn HCn HB2n HKn
  obtain ⟨ce, hce⟩ : ∃ c : Ct, c = ⟨f.lsn, f.ep, n0, n1, n2, n3, n4⟩ := ⟨_, rfl⟩
  rw [← hce] at HC
  rw [← HCT.out] at hce
  rw [hce] at HC
  clear hce
  have HSb := hide (HS.out.kept HK.out)
  clear HS
  by_cases h4 : E4 = 0
  case neg =>
    have HE4 : Hid ((E4 != 0) = true) := hide (by simpa using h4)
    go_wp2
    refine hold_frame (p := fun fr => Code.wp Try.prog _ _ fr _) ?_
    intro fr hfr
    have e0 : fr.eval (.tmp 0) = .slice bo bl cap := by rw [hfr.out]; rfl
    have e6 : fr.eval (.tmp 6) = .pointer (some ⟨x6, 0, none⟩) := by rw [hfr.out]; rfl
    have e7 : fr.eval (.tmp 7) = .pointer (some ⟨b7, 0, none⟩) := by rw [hfr.out]; rfl
    have hts : fr.tmps.size = 61 := by rw [hfr.out]; rfl
    refine region_S0 99 Try.mixed ?_
    intro w0 hkw hheap
    have HX0 := hide (hkw.blk HX.out (fun h => h))
    have HC0 := hide (hkw.blk HC.out (fun h => h))
    have HSb0 := hide (HSb.out.kept hkw)
    have hS0 : Kept (fun _ => False) w0 w0 := Kept.refl (fun _ => False) w0
    refine ⟨Kept (fun _ => False) w0, ?_⟩
    refine tkS 0 42 (v := .pointer (some ⟨x6, 0, none⟩)) hS0 rfl rfl (by kernel_rfl) (by kernel_rfl) (by kernel_rfl) (by kernel_rfl) (wanted_none rfl) (fun _ _ _ h => h) (fun U hU => r_move (by simp [eval_put_ne, eval_put_eq, size_put, hts, e6])) ?_
    refine tkS 1 43 (v := .pointer (some ⟨x6, 0, none⟩)) hS0 rfl rfl (by kernel_rfl) (by kernel_rfl) (by kernel_rfl) (by kernel_rfl) (wanted_none rfl) (fun _ _ _ h => h) (fun U hU => r_nilck (b := x6) (o := 0) (by simp [eval_put_ne, eval_put_eq, size_put, hts])) ?_
    refine tkS 2 44 (v := .pointer (some ⟨x6, 1, none⟩)) hS0 rfl rfl (by kernel_rfl) (by kernel_rfl) (by kernel_rfl) (by kernel_rfl) (wanted_none rfl) (fun _ _ _ h => h) (fun U hU => r_fld55_1 (b := x6) (by simp [eval_put_ne, eval_put_eq, size_put, hts])) ?_
    refine tkS 3 45 (v := .int .i64 E4) hS0 rfl rfl (by kernel_rfl) (by kernel_rfl) (by kernel_rfl) (by kernel_rfl) (wanted_none rfl) (fun _ _ _ h => h) (fun U hU => r_ld3 (b := x6) (o := 1) (by simp [eval_put_ne, eval_put_eq, size_put, hts]) ((((hS0).trans hU (fun _ _ h => h)).blk HX0.out (fun h => h)).cell 1)) ?_
    refine tkS 4 46 (v := .bool true) hS0 rfl rfl (by kernel_rfl) (by kernel_rfl) (by kernel_rfl) (by kernel_rfl) (wanted_none rfl) (fun _ _ _ h => h) (fun U hU => r_ctne (i := E4) (j := 0) (by simp [eval_put_ne, eval_put_eq, size_put, hts]) rfl HE4.out) ?_
    refine tkS 5 47 (v := .bool true) hS0 rfl rfl (by kernel_rfl) (by kernel_rfl) (by kernel_rfl) (by kernel_rfl) (wanted_none rfl) (fun _ _ _ h => h) (fun U hU => r_move (by simp [eval_put_ne, eval_put_eq, size_put, hts])) ?_
    refine tkNS 6 48 hS0 rfl rfl (by kernel_rfl) (by kernel_rfl) (by kernel_rfl) (by kernel_rfl) (wanted_not (j := 5) (d := 47) (bb := false) rfl rfl rfl (by simp [eval_put_ne, eval_put_eq, size_put, hts]) (by simp [size_put, hts])) (fun _ _ _ h => h) ?_
    refine tkNS 7 49 hS0 rfl rfl (by kernel_rfl) (by kernel_rfl) (by kernel_rfl) (by kernel_rfl) (wanted_not (j := 5) (d := 47) (bb := false) rfl rfl rfl (by simp [eval_put_ne, eval_put_eq, size_put, hts]) (by simp [size_put, hts])) (fun _ _ _ h => h) ?_
    refine tkNS 8 50 hS0 rfl rfl (by kernel_rfl) (by kernel_rfl) (by kernel_rfl) (by kernel_rfl) (wanted_not (j := 5) (d := 47) (bb := false) rfl rfl rfl (by simp [eval_put_ne, eval_put_eq, size_put, hts]) (by simp [size_put, hts])) (fun _ _ _ h => h) ?_
    refine tkS 9 51 (v := .bool true) hS0 rfl rfl (by kernel_rfl) (by kernel_rfl) (by kernel_rfl) (by kernel_rfl) (wanted_none rfl) (fun _ _ _ h => h) (fun U hU => r_pick (by simp [eval_put_ne, eval_put_eq, size_put, hts]) rfl) ?_
    refine tkS 10 52 (v := .bool true) hS0 rfl rfl (by kernel_rfl) (by kernel_rfl) (by kernel_rfl) (by kernel_rfl) (wanted_none rfl) (fun _ _ _ h => h) (fun U hU => r_move (by simp [eval_put_ne, eval_put_eq, size_put, hts])) ?_
    refine tkNS 11 53 hS0 rfl rfl (by kernel_rfl) (by kernel_rfl) (by kernel_rfl) (by kernel_rfl) (wanted_not (j := 10) (d := 52) (bb := false) rfl rfl rfl (by simp [eval_put_ne, eval_put_eq, size_put, hts]) (by simp [size_put, hts])) (fun _ _ _ h => h) ?_
    refine tkNS 12 54 hS0 rfl rfl (by kernel_rfl) (by kernel_rfl) (by kernel_rfl) (by kernel_rfl) (wanted_not (j := 10) (d := 52) (bb := false) rfl rfl rfl (by simp [eval_put_ne, eval_put_eq, size_put, hts]) (by simp [size_put, hts])) (fun _ _ _ h => h) ?_
    refine tkNS 13 55 hS0 rfl rfl (by kernel_rfl) (by kernel_rfl) (by kernel_rfl) (by kernel_rfl) (wanted_not (j := 10) (d := 52) (bb := false) rfl rfl rfl (by simp [eval_put_ne, eval_put_eq, size_put, hts]) (by simp [size_put, hts])) (fun _ _ _ h => h) ?_
    refine tkNS 14 56 hS0 rfl rfl (by kernel_rfl) (by kernel_rfl) (by kernel_rfl) (by kernel_rfl) (wanted_not (j := 10) (d := 52) (bb := false) rfl rfl rfl (by simp [eval_put_ne, eval_put_eq, size_put, hts]) (by simp [size_put, hts])) (fun _ _ _ h => h) ?_
    refine tkNS 15 57 hS0 rfl rfl (by kernel_rfl) (by kernel_rfl) (by kernel_rfl) (by kernel_rfl) (wanted_not (j := 10) (d := 52) (bb := false) rfl rfl rfl (by simp [eval_put_ne, eval_put_eq, size_put, hts]) (by simp [size_put, hts])) (fun _ _ _ h => h) ?_
    refine tkS 16 58 (v := .bool true) hS0 rfl rfl (by kernel_rfl) (by kernel_rfl) (by kernel_rfl) (by kernel_rfl) (wanted_none rfl) (fun _ _ _ h => h) (fun U hU => r_pick (by simp [eval_put_ne, eval_put_eq, size_put, hts]) rfl) ?_
    refine doneS (by kernel_rfl) ?_
    rw [hfr.out]
    clear hfr e0 e6 e7 hts
    simp only [put_lit, put_none, List.set_cons_succ, List.set_cons_zero]
    have HK9 := hide ((HK.out.trans hkw (fun _ _ h => h)).trans hS0 (fun _ _ h => h))
    have HB9 := hide ((hS0).blk (hkw.blk HB2.out (fun h => h)) (fun h => h))
    have HC9 := hide ((hS0).blk HC0.out (fun h => h))
    go_wp2_with (first
      | ((with_reducible refine wpList_run rfl r_build23_0 ?_))
      | ((with_reducible refine aw_store (x := .tmp 2) (M := ctV ct0) Try.agg23 rfl rfl rfl (ctV_one ct0) HB9.out (by simp [ctV]) ?_); intro w8 hw8 hk8 hz8; rw [put_whole _ _ (by simp [ctV])] at hw8)
      | fail)
    refine bodyPost_ret (results_cell2 (t := 2) (u := 3) (ty := 23) rfl Try.agg23 rfl hw8 rfl) rfl ?_
    rw [show refgetC b = (ct0, 20) from by rw [HGC.out, if_neg (by simp), if_pos (.inl h4)]]
    exact ⟨rfl, HK9.out.trans hk8 (fun i hi h => by have := HL2.out; omega)⟩
  case pos =>
  subst h4
  have HE4 : Hid (((0 : Int) != 0) = false) := hide rfl
  cases hrc : rightC ct with
  | false =>
    have HRC := hide hrc
    clear hrc
    go_wp2
    refine hold_frame (p := fun fr => Code.wp Try.prog _ _ fr _) ?_
    intro fr hfr
    have e0 : fr.eval (.tmp 0) = .slice bo bl cap := by rw [hfr.out]; rfl
    have e6 : fr.eval (.tmp 6) = .pointer (some ⟨x6, 0, none⟩) := by rw [hfr.out]; rfl
    have e7 : fr.eval (.tmp 7) = .pointer (some ⟨b7, 0, none⟩) := by rw [hfr.out]; rfl
    have hts : fr.tmps.size = 61 := by rw [hfr.out]; rfl
    refine region_S0 99 Try.mixed ?_
    intro w0 hkw hheap
    have HX0 := hide (hkw.blk HX.out (fun h => h))
    have HC0 := hide (hkw.blk HC.out (fun h => h))
    have HSb0 := hide (HSb.out.kept hkw)
    have hS0 : Kept (fun _ => False) w0 w0 := Kept.refl (fun _ => False) w0
    refine ⟨Kept (fun _ => False) w0, ?_⟩
    refine tkS 0 42 (v := .pointer (some ⟨x6, 0, none⟩)) hS0 rfl rfl (by kernel_rfl) (by kernel_rfl) (by kernel_rfl) (by kernel_rfl) (wanted_none rfl) (fun _ _ _ h => h) (fun U hU => r_move (by simp [eval_put_ne, eval_put_eq, size_put, hts, e6])) ?_
    refine tkS 1 43 (v := .pointer (some ⟨x6, 0, none⟩)) hS0 rfl rfl (by kernel_rfl) (by kernel_rfl) (by kernel_rfl) (by kernel_rfl) (wanted_none rfl) (fun _ _ _ h => h) (fun U hU => r_nilck (b := x6) (o := 0) (by simp [eval_put_ne, eval_put_eq, size_put, hts])) ?_
    refine tkS 2 44 (v := .pointer (some ⟨x6, 1, none⟩)) hS0 rfl rfl (by kernel_rfl) (by kernel_rfl) (by kernel_rfl) (by kernel_rfl) (wanted_none rfl) (fun _ _ _ h => h) (fun U hU => r_fld55_1 (b := x6) (by simp [eval_put_ne, eval_put_eq, size_put, hts])) ?_
    refine tkS 3 45 (v := .int .i64 0) hS0 rfl rfl (by kernel_rfl) (by kernel_rfl) (by kernel_rfl) (by kernel_rfl) (wanted_none rfl) (fun _ _ _ h => h) (fun U hU => r_ld3 (b := x6) (o := 1) (by simp [eval_put_ne, eval_put_eq, size_put, hts]) ((((hS0).trans hU (fun _ _ h => h)).blk HX0.out (fun h => h)).cell 1)) ?_
    refine tkS 4 46 (v := .bool false) hS0 rfl rfl (by kernel_rfl) (by kernel_rfl) (by kernel_rfl) (by kernel_rfl) (wanted_none rfl) (fun _ _ _ h => h) (fun U hU => r_ctne (i := 0) (j := 0) (by simp [eval_put_ne, eval_put_eq, size_put, hts]) rfl HE4.out) ?_
    refine tkS 5 47 (v := .bool false) hS0 rfl rfl (by kernel_rfl) (by kernel_rfl) (by kernel_rfl) (by kernel_rfl) (wanted_none rfl) (fun _ _ _ h => h) (fun U hU => r_move (by simp [eval_put_ne, eval_put_eq, size_put, hts])) ?_
    refine tkS 6 48 (v := ctAgg ct) hS0 rfl rfl (by kernel_rfl) (by kernel_rfl) (by kernel_rfl) (by kernel_rfl) (wanted_some (j := 5) (d := 47) (bb := false) rfl rfl rfl (by simp [eval_put_ne, eval_put_eq, size_put, hts]) (by simp [size_put, hts])) (fun _ _ _ h => h) (fun U hU => r_ld23 (b := b7) (by simp [eval_put_ne, eval_put_eq, size_put, hts, e7]) (((hS0).trans hU (fun _ _ h => h)).blk HC0.out (fun h => h))) ?_
    refine oneCS 7 49 (by kernel_rfl) rfl rfl (wanted_some (j := 5) (d := 47) (bb := false) rfl rfl rfl (by simp [eval_put_ne, eval_put_eq, size_put, hts]) (by simp [size_put, hts])) (r_call1 Try.func7 (by kernel_rfl) rfl rfl (by simp [eval_put_ne, eval_put_eq, size_put, hts])) (ctrright_at w0 ct false HRC.out) ?_
    rintro e v1 ⟨rfl, k1⟩
    refine ⟨_, rfl, k1, ?_⟩
    refine tkS 8 50 (v := .bool true) k1 rfl rfl (by kernel_rfl) (by kernel_rfl) (by kernel_rfl) (by kernel_rfl) (wanted_some (j := 5) (d := 47) (bb := false) rfl rfl rfl (by simp [eval_put_ne, eval_put_eq, size_put, hts]) (by simp [size_put, hts])) (fun _ _ _ h => h) (fun U hU => r_not (b := false) (by simp [eval_put_ne, eval_put_eq, size_put, hts])) ?_
    refine tkS 9 51 (v := .bool true) k1 rfl rfl (by kernel_rfl) (by kernel_rfl) (by kernel_rfl) (by kernel_rfl) (wanted_none rfl) (fun _ _ _ h => h) (fun U hU => r_pickF (by simp [eval_put_ne, eval_put_eq, size_put, hts]) (by simp [eval_put_ne, eval_put_eq, size_put, hts])) ?_
    refine tkS 10 52 (v := .bool true) k1 rfl rfl (by kernel_rfl) (by kernel_rfl) (by kernel_rfl) (by kernel_rfl) (wanted_none rfl) (fun _ _ _ h => h) (fun U hU => r_move (by simp [eval_put_ne, eval_put_eq, size_put, hts])) ?_
    refine tkNS 11 53 k1 rfl rfl (by kernel_rfl) (by kernel_rfl) (by kernel_rfl) (by kernel_rfl) (wanted_not (j := 10) (d := 52) (bb := false) rfl rfl rfl (by simp [eval_put_ne, eval_put_eq, size_put, hts]) (by simp [size_put, hts])) (fun _ _ _ h => h) ?_
    refine tkNS 12 54 k1 rfl rfl (by kernel_rfl) (by kernel_rfl) (by kernel_rfl) (by kernel_rfl) (wanted_not (j := 10) (d := 52) (bb := false) rfl rfl rfl (by simp [eval_put_ne, eval_put_eq, size_put, hts]) (by simp [size_put, hts])) (fun _ _ _ h => h) ?_
    refine tkNS 13 55 k1 rfl rfl (by kernel_rfl) (by kernel_rfl) (by kernel_rfl) (by kernel_rfl) (wanted_not (j := 10) (d := 52) (bb := false) rfl rfl rfl (by simp [eval_put_ne, eval_put_eq, size_put, hts]) (by simp [size_put, hts])) (fun _ _ _ h => h) ?_
    refine tkNS 14 56 k1 rfl rfl (by kernel_rfl) (by kernel_rfl) (by kernel_rfl) (by kernel_rfl) (wanted_not (j := 10) (d := 52) (bb := false) rfl rfl rfl (by simp [eval_put_ne, eval_put_eq, size_put, hts]) (by simp [size_put, hts])) (fun _ _ _ h => h) ?_
    refine tkNS 15 57 k1 rfl rfl (by kernel_rfl) (by kernel_rfl) (by kernel_rfl) (by kernel_rfl) (wanted_not (j := 10) (d := 52) (bb := false) rfl rfl rfl (by simp [eval_put_ne, eval_put_eq, size_put, hts]) (by simp [size_put, hts])) (fun _ _ _ h => h) ?_
    refine tkS 16 58 (v := .bool true) k1 rfl rfl (by kernel_rfl) (by kernel_rfl) (by kernel_rfl) (by kernel_rfl) (wanted_none rfl) (fun _ _ _ h => h) (fun U hU => r_pick (by simp [eval_put_ne, eval_put_eq, size_put, hts]) rfl) ?_
    refine doneS (by kernel_rfl) ?_
    rw [hfr.out]
    clear hfr e0 e6 e7 hts
    simp only [put_lit, put_none, List.set_cons_succ, List.set_cons_zero]
    have HK9 := hide ((HK.out.trans hkw (fun _ _ h => h)).trans k1 (fun _ _ h => h))
    have HB9 := hide ((k1).blk (hkw.blk HB2.out (fun h => h)) (fun h => h))
    have HC9 := hide ((k1).blk HC0.out (fun h => h))
    go_wp2_with (first
      | ((with_reducible refine wpList_run rfl r_build23_0 ?_))
      | ((with_reducible refine aw_store (x := .tmp 2) (M := ctV ct0) Try.agg23 rfl rfl rfl (ctV_one ct0) HB9.out (by simp [ctV]) ?_); intro w8 hw8 hk8 hz8; rw [put_whole _ _ (by simp [ctV])] at hw8)
      | fail)
    refine bodyPost_ret (results_cell2 (t := 2) (u := 3) (ty := 23) rfl Try.agg23 rfl hw8 rfl) rfl ?_
    rw [show refgetC b = (ct0, 20) from by rw [HGC.out, if_neg (by simp), if_pos (.inr (.inl HRC.out))]]
    exact ⟨rfl, HK9.out.trans hk8 (fun i hi h => by have := HL2.out; omega)⟩
  | true =>
    have HRC := hide hrc
    clear hrc
    obtain ⟨r9, hr9⟩ : ∃ r, (!decide (strN (putC ct) = strN b)) = r := ⟨_, rfl⟩
    have HR9 := hide hr9
    have HR9' : Hid (r9 = true ↔ putC ct ≠ b) := hide (by rw [← hr9]; simp [strN_iff (putC_lt ct) HBb.out])
    clear hr9
    go_wp2
    refine hold_frame (p := fun fr => Code.wp Try.prog _ _ fr _) ?_
    intro fr hfr
    have e0 : fr.eval (.tmp 0) = .slice bo bl cap := by rw [hfr.out]; rfl
    have e6 : fr.eval (.tmp 6) = .pointer (some ⟨x6, 0, none⟩) := by rw [hfr.out]; rfl
    have e7 : fr.eval (.tmp 7) = .pointer (some ⟨b7, 0, none⟩) := by rw [hfr.out]; rfl
    have hts : fr.tmps.size = 61 := by rw [hfr.out]; rfl
    refine region_S0 99 Try.mixed ?_
    intro w0 hkw hheap
    have HX0 := hide (hkw.blk HX.out (fun h => h))
    have HC0 := hide (hkw.blk HC.out (fun h => h))
    have HSb0 := hide (HSb.out.kept hkw)
    have hS0 : Kept (fun _ => False) w0 w0 := Kept.refl (fun _ => False) w0
    refine ⟨Kept (fun _ => False) w0, ?_⟩
    refine tkS 0 42 (v := .pointer (some ⟨x6, 0, none⟩)) hS0 rfl rfl (by kernel_rfl) (by kernel_rfl) (by kernel_rfl) (by kernel_rfl) (wanted_none rfl) (fun _ _ _ h => h) (fun U hU => r_move (by simp [eval_put_ne, eval_put_eq, size_put, hts, e6])) ?_
    refine tkS 1 43 (v := .pointer (some ⟨x6, 0, none⟩)) hS0 rfl rfl (by kernel_rfl) (by kernel_rfl) (by kernel_rfl) (by kernel_rfl) (wanted_none rfl) (fun _ _ _ h => h) (fun U hU => r_nilck (b := x6) (o := 0) (by simp [eval_put_ne, eval_put_eq, size_put, hts])) ?_
    refine tkS 2 44 (v := .pointer (some ⟨x6, 1, none⟩)) hS0 rfl rfl (by kernel_rfl) (by kernel_rfl) (by kernel_rfl) (by kernel_rfl) (wanted_none rfl) (fun _ _ _ h => h) (fun U hU => r_fld55_1 (b := x6) (by simp [eval_put_ne, eval_put_eq, size_put, hts])) ?_
    refine tkS 3 45 (v := .int .i64 0) hS0 rfl rfl (by kernel_rfl) (by kernel_rfl) (by kernel_rfl) (by kernel_rfl) (wanted_none rfl) (fun _ _ _ h => h) (fun U hU => r_ld3 (b := x6) (o := 1) (by simp [eval_put_ne, eval_put_eq, size_put, hts]) ((((hS0).trans hU (fun _ _ h => h)).blk HX0.out (fun h => h)).cell 1)) ?_
    refine tkS 4 46 (v := .bool false) hS0 rfl rfl (by kernel_rfl) (by kernel_rfl) (by kernel_rfl) (by kernel_rfl) (wanted_none rfl) (fun _ _ _ h => h) (fun U hU => r_ctne (i := 0) (j := 0) (by simp [eval_put_ne, eval_put_eq, size_put, hts]) rfl HE4.out) ?_
    refine tkS 5 47 (v := .bool false) hS0 rfl rfl (by kernel_rfl) (by kernel_rfl) (by kernel_rfl) (by kernel_rfl) (wanted_none rfl) (fun _ _ _ h => h) (fun U hU => r_move (by simp [eval_put_ne, eval_put_eq, size_put, hts])) ?_
    refine tkS 6 48 (v := ctAgg ct) hS0 rfl rfl (by kernel_rfl) (by kernel_rfl) (by kernel_rfl) (by kernel_rfl) (wanted_some (j := 5) (d := 47) (bb := false) rfl rfl rfl (by simp [eval_put_ne, eval_put_eq, size_put, hts]) (by simp [size_put, hts])) (fun _ _ _ h => h) (fun U hU => r_ld23 (b := b7) (by simp [eval_put_ne, eval_put_eq, size_put, hts, e7]) (((hS0).trans hU (fun _ _ h => h)).blk HC0.out (fun h => h))) ?_
    refine oneCS 7 49 (by kernel_rfl) rfl rfl (wanted_some (j := 5) (d := 47) (bb := false) rfl rfl rfl (by simp [eval_put_ne, eval_put_eq, size_put, hts]) (by simp [size_put, hts])) (r_call1 Try.func7 (by kernel_rfl) rfl rfl (by simp [eval_put_ne, eval_put_eq, size_put, hts])) (ctrright_at w0 ct true HRC.out) ?_
    rintro e v1 ⟨rfl, k1⟩
    refine ⟨_, rfl, k1, ?_⟩
    refine tkS 8 50 (v := .bool false) k1 rfl rfl (by kernel_rfl) (by kernel_rfl) (by kernel_rfl) (by kernel_rfl) (wanted_some (j := 5) (d := 47) (bb := false) rfl rfl rfl (by simp [eval_put_ne, eval_put_eq, size_put, hts]) (by simp [size_put, hts])) (fun _ _ _ h => h) (fun U hU => r_not (b := true) (by simp [eval_put_ne, eval_put_eq, size_put, hts])) ?_
    refine tkS 9 51 (v := .bool false) k1 rfl rfl (by kernel_rfl) (by kernel_rfl) (by kernel_rfl) (by kernel_rfl) (wanted_none rfl) (fun _ _ _ h => h) (fun U hU => r_pickF (by simp [eval_put_ne, eval_put_eq, size_put, hts]) (by simp [eval_put_ne, eval_put_eq, size_put, hts])) ?_
    refine tkS 10 52 (v := .bool false) k1 rfl rfl (by kernel_rfl) (by kernel_rfl) (by kernel_rfl) (by kernel_rfl) (wanted_none rfl) (fun _ _ _ h => h) (fun U hU => r_move (by simp [eval_put_ne, eval_put_eq, size_put, hts])) ?_
    refine tkS 11 53 (v := ctAgg ct) k1 rfl rfl (by kernel_rfl) (by kernel_rfl) (by kernel_rfl) (by kernel_rfl) (wanted_some (j := 10) (d := 52) (bb := false) rfl rfl rfl (by simp [eval_put_ne, eval_put_eq, size_put, hts]) (by simp [size_put, hts])) (fun _ _ _ h => h) (fun U hU => r_ld23 (b := b7) (by simp [eval_put_ne, eval_put_eq, size_put, hts, e7]) (((hS0).trans hU (fun _ _ h => h)).blk HC0.out (fun h => h))) ?_
    refine tkS 13 55 (v := .slice bo bl cap) k1 rfl rfl (by kernel_rfl) (by kernel_rfl) (by kernel_rfl) (by kernel_rfl) (wanted_some (j := 10) (d := 52) (bb := false) rfl rfl rfl (by simp [eval_put_ne, eval_put_eq, size_put, hts]) (by simp [size_put, hts])) (fun _ _ _ h => h) (fun U hU => r_move (by simp [eval_put_ne, eval_put_eq, size_put, hts, e0])) ?_
    refine tkS 14 56 (v := .string (strN b)) k1 rfl rfl (by kernel_rfl) (by kernel_rfl) (by kernel_rfl) (by kernel_rfl) (wanted_some (j := 10) (d := 52) (bb := false) rfl rfl rfl (by simp [eval_put_ne, eval_put_eq, size_put, hts]) (by simp [size_put, hts])) (fun _ _ _ h => h) (fun U hU => r_strS (v := .slice bo bl cap) (by simp [eval_put_ne, eval_put_eq, size_put, hts]) (HSb0.out.kept ((hS0).trans hU (fun _ _ h => h)))) ?_
    refine oneCS 12 54 (by kernel_rfl) rfl rfl (wanted_some (j := 10) (d := 52) (bb := false) rfl rfl rfl (by simp [eval_put_ne, eval_put_eq, size_put, hts]) (by simp [size_put, hts])) (r_call1 Try.func8 (by kernel_rfl) rfl rfl (by simp [eval_put_ne, eval_put_eq, size_put, hts])) (ctrput_at v1 ct HRC.out) ?_
    rintro e v2 ⟨rfl, k2⟩
    have kk := k1.trans k2 (fun _ _ h => h)
    refine ⟨_, rfl, kk, ?_⟩
    refine tkS 15 57 (v := .bool r9) kk rfl rfl (by kernel_rfl) (by kernel_rfl) (by kernel_rfl) (by kernel_rfl) (wanted_some (j := 10) (d := 52) (bb := false) rfl rfl rfl (by simp [eval_put_ne, eval_put_eq, size_put, hts]) (by simp [size_put, hts])) (fun _ _ _ h => h) (fun U hU => r_ctne9 (A := putC ct) (B := b) (by simp [eval_put_ne, eval_put_eq, size_put, hts]) (by simp [eval_put_ne, eval_put_eq, size_put, hts]) HR9.out) ?_
    refine tkS 16 58 (v := .bool r9) kk rfl rfl (by kernel_rfl) (by kernel_rfl) (by kernel_rfl) (by kernel_rfl) (wanted_none rfl) (fun _ _ _ h => h) (fun U hU => r_pickF (by simp [eval_put_ne, eval_put_eq, size_put, hts]) (by simp [eval_put_ne, eval_put_eq, size_put, hts])) ?_
    refine doneS (by kernel_rfl) ?_
    rw [hfr.out]
    clear hfr e0 e6 e7 hts
    simp only [put_lit, put_none, List.set_cons_succ, List.set_cons_zero]
    have HK9 := hide ((HK.out.trans hkw (fun _ _ h => h)).trans kk (fun _ _ h => h))
    have HB9 := hide ((kk).blk (hkw.blk HB2.out (fun h => h)) (fun h => h))
    have HC9 := hide ((kk).blk HC0.out (fun h => h))
    cases r9 with
    | true =>
      go_wp2_with (first
        | ((with_reducible refine wpList_run rfl r_build23_0 ?_))
        | ((with_reducible refine aw_store (x := .tmp 2) (M := ctV ct0) Try.agg23 rfl rfl rfl (ctV_one ct0) HB9.out (by simp [ctV]) ?_); intro w8 hw8 hk8 hz8; rw [put_whole _ _ (by simp [ctV])] at hw8)
        | fail)
      refine bodyPost_ret (results_cell2 (t := 2) (u := 3) (ty := 23) rfl Try.agg23 rfl hw8 rfl) rfl ?_
      rw [show refgetC b = (ct0, 20) from by rw [HGC.out, if_neg (by simp), if_pos (.inr (.inr (HR9'.out.1 (by simp))))]]
      exact ⟨rfl, HK9.out.trans hk8 (fun i hi h => by have := HL2.out; omega)⟩
    | false =>
      go_wp2_with (first
        | (with_reducible refine aw_load (x := .tmp 7) (M := ctV ct) Try.agg23 rfl HC9.out (by simp [ctV]) (by simp [ctV]) ?_)
        | ((with_reducible refine aw_store (x := .tmp 2) (M := ctV ct) Try.agg23 rfl rfl rfl (ctV_one ct) HB9.out (by simp [ctV]) ?_); intro w8 hw8 hk8 hz8; rw [put_whole _ _ (by simp [ctV])] at hw8)
        | fail)
      refine bodyPost_ret (results_cell2 (t := 2) (u := 3) (ty := 23) rfl Try.agg23 rfl hw8 rfl) rfl ?_
      have hb : putC ct = b := by
        by_cases h : putC ct = b
        · exact h
        · exact absurd (HR9'.out.2 h) (by simp)
      rw [show refgetC b = (ct, 0) from by rw [HGC.out, if_neg (by simp), if_neg (by simp [HRC.out, hb])]]
      exact ⟨rfl, HK9.out.trans hk8 (fun i hi h => by have := HL2.out; omega)⟩
end Go.Proofs.Ytapoagpkjngjpaa
