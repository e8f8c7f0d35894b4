/-
  What TxnApart and TxnWrites keep from round to round.
-/
import Derived.Test.YtclfklcboigifaaTxFirst
namespace Go.Proofs.Ytclfklcboigifaa
open Go.RowKit Go.Shelf Go.Maps
set_option linter.unusedSimpArgs false
set_option linter.unusedVariables false
set_option maxRecDepth 100000

/-- One transaction with the writes M, and another one without. -/
def txF (t : Bool) (M : List Wr) : Txs := (1, M) :: (if t then [(2, [])] else [])
def laF (t : Bool) : Int := if t then 2 else 1
theorem txF_has (t : Bool) (M : List Wr) : hasK ltI (txF t M) 1 = true := by cases t <;> rfl
theorem txF_val (t : Bool) (M : List Wr) : valK ltI [] (txF t M) 1 = M := by cases t <;> rfl
theorem txF_len (t : Bool) (M : List Wr) : (txF t M).length ≤ 1000 := by cases t <;> simp [txF]
theorem txF_w (t : Bool) (M : List Wr) (hr : Rising M) (k : Int) (B : List Nat) : txW (txF t M) 1 k B = txF t (insW M ⟨k, B⟩) := by
  unfold txW
  rw [txF_val, merge_snoc hr]
  cases t <;> rfl
theorem txF_err (t : Bool) (M : List Wr) (k : Int) : txErr 8 (txF t M) 1 k = if k < 0 ∨ 8 ≤ k then 41 else 0 := by
  unfold txErr
  rw [txF_has]
  simp
theorem txF_we {t : Bool} {M : List Wr} {k : Int} {n : Nat} (h : txWE 8 (txF t M) 1 k n = 0) : 0 ≤ k ∧ k < 8 ∧ n = 64 := by
  unfold txWE at h
  rw [txF_err] at h
  by_cases h1 : k < 0 ∨ 8 ≤ k
  · simp [h1] at h
  · simp only [if_neg h1] at h
    by_cases h2 : n = 64
    · exact ⟨by omega, by omega, h2⟩
    · simp [h2] at h
theorem txF_two (M : List Wr) : hasK ltI (txF true M) 2 = true ∧ valK ltI [] (txF true M) 2 = [] := ⟨rfl, rfl⟩
theorem txF_err2 (M : List Wr) (k : Int) (h : 0 ≤ k ∧ k < 8) (t : Bool) : txErr 8 (txF t M) 1 k = 0 ∧ txErr 8 (txF true M) 2 k = 0 := by
  refine ⟨by rw [txF_err, if_neg (by omega)], ?_⟩
  unfold txErr
  rw [(txF_two M).1]
  simp
  omega
theorem txF_del (M : List Wr) : delK ltI (txF false M) 1 = [] := rfl
theorem findW_self : ∀ {M : List Wr}, Rising M → ∀ x ∈ M, findW M x.blk = some x
  | y :: M, h, x, hx => by
    rw [findW_cons]
    rcases List.mem_cons.1 hx with rfl | hx
    · rw [if_pos rfl]
    · have := h.1 x hx
      rw [if_neg (by omega)]
      exact findW_self h.2 x hx
theorem rising_get : ∀ {M : List Wr}, Rising M → ∀ {i : Nat} (h : i + 1 < M.length), M[i].blk < M[i + 1].blk
  | y :: M, h, 0, hi => by
    simp only [List.getElem_cons_zero, List.getElem_cons_succ]
    exact h.1 _ (List.getElem_mem _)
  | y :: M, h, i + 1, hi => by
    simp only [List.getElem_cons_succ]
    exact rising_get h.2 (by simpa using hi)
/-- What stands at the head of a round. -/
structure WSt (t : Bool) (W wr : World) (b bl k : Nat) (M : List Wr) (X : NSet) : Prop where
  tw : Tw W wr b 8 (laF t) (txF t M) X
  mp : MapS wr bl M k
  ri : Rising M
  ok : okTx k (txF t M)
  inn : ∀ x ∈ M, (0 ≤ x.blk ∧ x.blk < 8) ∧ x.B.length = 64
  nx : ¬ X bl
  ge : W.heap.size ≤ bl
section
variable {t : Bool} {W wr w w' : World} {b bl k : Nat} {M : List Wr} {X S : NSet}
theorem WSt.same (h : WSt t W wr b bl k M X) (hk : Kept (fun _ => False) wr w) : WSt t W w b bl k M X := { h with tw := h.tw.same hk, mp := h.mp.kept hk (fun h => h) }
theorem WSt.next (h : WSt t W wr b bl k M X) : WSt t W wr b bl (k + 1) M X := { h with mp := by obtain ⟨D, h1, h2⟩ := h.mp; exact ⟨D, h1.mono (Nat.le_succ k), h2⟩, ok := h.ok.mono (Nat.le_succ k) }
/-- A write that is refused. -/
theorem WSt.no (h : WSt t W wr b bl k M X) {kk : Int} {B : List Nat} (he : txWE 8 (txF t M) 1 kk B.length ≠ 0) (hs : BStep wr w b 8 (laF t) (if txWE 8 (txF t M) 1 kk B.length = 0 then txW (txF t M) 1 kk B else txF t M) X) : ∃ X', WSt t W w b bl k M X' ∧ Kept X wr w ∧ ∀ j, X' j → X j ∨ wr.heap.size ≤ j := by
  rw [if_neg he] at hs
  obtain ⟨X', ht, hk, hx⟩ := h.tw.step hs
  refine ⟨X', { h with tw := ht, mp := h.mp.kept hk h.nx, nx := fun e => ?_ }, hk, hx⟩
  rcases hx bl e with e | e
  · exact h.nx e
  · have := h.mp.lt; omega
/-- One that isn't, ahead of the map's turn. -/
structure XSt (t : Bool) (W wr : World) (b bl k : Nat) (M : List Wr) (x : Wr) (X : NSet) : Prop where
  tw : Tw W wr b 8 (laF t) (txF t (insW M x)) X
  mp : MapS wr bl M k
  ri : Rising M
  ok : okTx (k + 1) (txF t (insW M x))
  inn : ∀ y ∈ insW M x, (0 ≤ y.blk ∧ y.blk < 8) ∧ y.B.length = 64
  nx : ¬ X bl
  ge : W.heap.size ≤ bl
theorem WSt.yes (h : WSt t W wr b bl k M X) {kk : Int} {B : List Nat} (he : txWE 8 (txF t M) 1 kk B.length = 0) (hs : BStep wr w b 8 (laF t) (if txWE 8 (txF t M) 1 kk B.length = 0 then txW (txF t M) 1 kk B else txF t M) X) : ∃ X', XSt t W w b bl k M ⟨kk, B⟩ X' ∧ Kept X wr w ∧ ∀ j, X' j → X j ∨ wr.heap.size ≤ j := by
  rw [if_pos he, txF_w t M h.ri] at hs
  obtain ⟨X', ht, hk, hx⟩ := h.tw.step hs
  have hb := txF_we he
  have hok := h.ok.write 1 kk hb.2.2
  rw [txF_w t M h.ri] at hok
  refine ⟨X', { tw := ht, mp := h.mp.kept hk h.nx, ri := h.ri, ok := hok, inn := fun y hy => ?_, nx := fun e => ?_, ge := h.ge }, hk, hx⟩
  · rcases mem_insW hy with e | e
    · subst e; exact ⟨⟨hb.1, hb.2.1⟩, hb.2.2⟩
    · exact h.inn y e
  · rcases hx bl e with e | e
    · exact h.nx e
    · have := h.mp.lt; omega
theorem XSt.same {x : Wr} (h : XSt t W wr b bl k M x X) (hk : Kept (fun _ => False) wr w) : XSt t W w b bl k M x X := { h with tw := h.tw.same hk, mp := h.mp.kept hk (fun h => h) }
theorem XSt.done {x : Wr} (h : XSt t W wr b bl k M x X) (hm : MapS w bl (insW M x) (k + 1)) (hk : Kept (fun j => j = bl) wr w) : WSt t W w b bl (k + 1) (insW M x) X :=
  { tw := h.tw.keptS hk (fun j hj e => h.nx (e ▸ hj)) (fun j e => e ▸ h.ge), mp := hm, ri := insW_rising x h.ri, ok := h.ok, inn := h.inn, nx := h.nx, ge := h.ge }
/-- A block of the law's own changes. -/
theorem WSt.own (h : WSt t W wr b bl k M X) {d : Nat} (hk : Kept (fun j => j = d) wr w) (hd : ¬ X d) (hb : bl ≠ d) (hg : W.heap.size ≤ d) : WSt t W w b bl k M X :=
  { h with tw := h.tw.keptS hk (fun j hj e => hd (e ▸ hj)) (fun j e => e ▸ hg), mp := h.mp.kept hk hb }
end
theorem run_load_cells {P : Program} {ρ : Operand → Value} {w : World} {dst : Option Tmp} {t ty : TypeId} {x : Operand} {pos : String} {aft : Array Edge} {gd : Option (Nat × Bool)} {b off n : Nat} {M : List Value}
    (ht : aggSize P t n) (hx : ρ x = .pointer (some ⟨b, off, none⟩)) (hb : Cells w b off M) (hl : M.length = n) :
    (execOp ρ ⟨dst, .load t x, ty, pos, aft, gd⟩).run P w = .ok (.value (.agg M.toArray)) w := by
  have hc := run_loadCells_list (P := P) w ⟨b, off, none⟩ M (fun j v hj => by rw [addr_add]; exact hb j v hj)
  rw [hl] at hc
  simp [execOp, Instr.loadAt, hx, Instr.sureAddr, loadVar, run_isAgg ht, run_sizeOf ht, hc]
section
variable {P : Program} {ops : Array Oper} {Q : Exit → Act → World → Prop} {a : Act} {w w' : World} {rest : List Oper} {o : Oper} {v : Value} {dst : Option Tmp} {ty : TypeId} {pos : String} {aft : Array Edge} {gd : Option (Nat × Bool)} {x y : Operand}
theorem aw_loadC {t : TypeId} {b off n : Nat} {M : List Value} (ht : aggSize P t n) (hx : a.eval x = .pointer (some ⟨b, off, none⟩)) (hb : Cells w b off M) (hl : M.length = n) (h : wpList P ops Q rest (a.put dst (.agg M.toArray)) w) : wpList P ops Q (⟨dst, .load t x, ty, pos, aft, none⟩ :: rest) a w :=
  wpList_run rfl (run_load_cells ht hx hb hl) h
theorem stop_mu {m v : Operand} (t : TypeId) (h : Hid (wpList P ops Q (⟨dst, .mapUpdate t m x v, ty, pos, aft, none⟩ :: rest) a w)) : wpList P ops Q (⟨dst, .mapUpdate t m x v, ty, pos, aft, none⟩ :: rest) a w := h.out
theorem aw_mu {m v : Operand} {t : TypeId} {mv kv vv : Value} (hm : a.eval m = mv) (hx : a.eval x = kv) (hv : a.eval v = vv) {w2 : World} (hr : (Instr.mapUpdate t mv kv vv).run P w = .ok () w2) (h : wpList P ops Q rest (a.put dst undef) w2) : wpList P ops Q (⟨dst, .mapUpdate t m x v, ty, pos, aft, none⟩ :: rest) a w := by
  refine wpList_plain rfl fun K' hK' => ?_
  unfold Oper.wp
  simp [execOp, hm, hx, hv, hr, Result.andThen]
  exact hK' _ _ h
theorem stop_lk {m : Operand} {ok : Bool} (t : TypeId) (h : Hid (wpList P ops Q (⟨dst, .lookup t m x ok, ty, pos, aft, none⟩ :: rest) a w)) : wpList P ops Q (⟨dst, .lookup t m x ok, ty, pos, aft, none⟩ :: rest) a w := h.out
theorem r_look {ρ : Operand → Value} {m : Operand} {ok : Bool} {t : TypeId} {mv kv v : Value} (hm : ρ m = mv) (hx : ρ x = kv) (hr : (Instr.lookup t mv kv ok).run P w = .ok v w) : (execOp ρ ⟨dst, .lookup t m x ok, ty, pos, aft, gd⟩).run P w = .ok (.value v) w := by
  simp [execOp, hm, hx, hr]
theorem stop_lenG {t : TypeId} (t0 : TypeId) (h : Hid (wpList P ops Q (⟨dst, .call { callee := .builtin .len, args := #[x], argTypes := #[t0] }, ty, pos, aft, gd⟩ :: rest) a w)) : wpList P ops Q (⟨dst, .call { callee := .builtin .len, args := #[x], argTypes := #[t0] }, ty, pos, aft, gd⟩ :: rest) a w := h.out
theorem r_lenM {ρ : Operand → Value} {t : TypeId} {mv : Value} {n : Nat} (hx : ρ x = mv) (hr : (Builtin.len_ #[t] ty #[mv]).run P w = .ok (.int .i64 n) w) : (execOp ρ ⟨dst, .call { callee := .builtin .len, args := #[x], argTypes := #[t] }, ty, pos, aft, gd⟩).run P w = .ok (.value (.int .i64 n)) w := by
  simp [execOp, resolve, invoke, builtin, hx, hr]
end
end Go.Proofs.Ytclfklcboigifaa
