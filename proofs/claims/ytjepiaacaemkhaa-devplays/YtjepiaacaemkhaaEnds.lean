/-
  A region that draws its order, whose operations may be guarded: its reads first, then the others one by one. Bytes as strings.
-/
import Derived.Test.YtjepiaacaemkhaaFirst
namespace Go.Proofs.Ytjepiaacaemkhaa
open Go.RowKit Go.Shelf
set_option linter.unusedSimpArgs false
set_option linter.unusedVariables false

section
variable {P : Program} {md : Region.Mode} {ops : Array Oper} {Q : Exit → Act → World → Prop} {S : World → Prop} {fuel : Nat} {listed : Array Bool} {a : Act} {w w' : World}

theorem wanted_none {o : Oper} (hg : o.guard = none) : Region.wanted o (yielded ops a.tmps) = true := by simp [Region.wanted, hg]

theorem wanted_some {o oj : Oper} {j d : Nat} {bb : Bool} (hg : o.guard = some (j, bb)) (hj : ops[j]? = some oj) (hd : oj.dst = some d) (hb : a.eval (.tmp d) = .bool bb) (hs : d < a.tmps.size) : Region.wanted o (yielded ops a.tmps) = true := by
  have hb' : a.tmps[d]? = some (.bool bb) := by
    simp only [Act.eval, Array.getD_eq_getD_getElem?] at hb
    rw [Array.getElem?_eq_getElem hs] at hb ⊢
    simpa using hb
  simp [Region.wanted, hg, yielded, hj, hd, hb']

theorem tk (i : Nat) {oi : Oper} {v : Value} (hi : ops[i]? = some oi) (hs : Region.noSelect ops = true) (hf : Region.free md ops listed i = true) (hr : (Region.ready md ops listed).contains i = true)
    (hw : Region.wanted oi (yielded ops a.tmps) = true) (hQ : ∀ c a w, Q (.panic c) (a.put oi.dst v) w → Q (.panic c) a w) (hS : S w) (hrun : ∀ w, S w → (execOp a.eval oi).run P w = .ok (.value v) w)
    (h : wpAnyH P md ops Q S fuel (listed.setIfInBounds i true) (a.put oi.dst v) w) : wpAnyH P md ops Q S (fuel + 1) listed a w :=
  wpAnyH_take hi hs hf hr hQ (.inl ⟨hw, hrun⟩) hS h

theorem dn (i : Nat) {oi : Oper} {v : Value} (hi : ops[i]? = some oi) (hr : Region.ready md ops listed = [i]) (hw : Region.wanted oi (yielded ops a.tmps) = true) (hrun : (execOp a.eval oi).run P w = .ok (.value v) w') (hS : S w')
    (h : wpAnyH P md ops Q S fuel (listed.setIfInBounds i true) (a.put oi.dst v) w') : wpAnyH P md ops Q S (fuel + 1) listed a w := by
  refine wpAnyH_all hr (by simp) ?_
  intro j hj
  simp at hj
  subst hj
  unfold wpOp
  simp only [hi, hw, if_true]
  exact .inl (by unfold Oper.wp; rw [hrun]; exact ⟨hS, h⟩)

theorem cl (i : Nat) {oi : Oper} {v : Value} {f : FuncId} {args : Array Value} (hi : ops[i]? = some oi) (hr : Region.ready md ops listed = [i]) (hw : Region.wanted oi (yielded ops a.tmps) = true) (hrun : (execOp a.eval oi).run P w = .ok (.enter f args) w)
    (hc : Calls P f args w fun e w' => e = .returned v ∧ w = w') (hS : S w) (h : wpAnyH P md ops Q S fuel (listed.setIfInBounds i true) (a.put oi.dst v) w) : wpAnyH P md ops Q S (fuel + 1) listed a w := by
  refine wpAnyH_all hr (by simp) ?_
  intro j hj
  simp at hj
  subst hj
  unfold wpOp
  simp only [hi, hw, if_true]
  refine .inl ?_
  unfold Oper.wp
  rw [hrun]
  exact hc.mono fun e w' ⟨he, hw'⟩ => by subst he; subst hw'; exact ⟨hS, h⟩

theorem region_held {id : Nat} (hm : P.follows .mixedOrders = true)
    (h : ∀ w', Kept (fun _ => False) w w' → w'.heap = w.heap → wpAnyH P .any ops Q S ops.size (Array.replicate ops.size false) a w') : (Code.region id ops true).wp P Q a w :=
  wp_region_held hm (h _ ⟨rfl, rfl, rfl, Nat.le_refl _, fun _ _ _ => rfl⟩ rfl)
end

theorem run_load_cells {P : Program} {ρ : Operand → Value} {w : World} {dst : Option Tmp} {t ty : TypeId} {x : Operand} {pos : String} {aft : Array Edge} {gd : Option (Nat × Bool)} {b off n : Nat} {M : List Value}
    (ht : aggSize P t n) (hx : ρ x = .pointer (some ⟨b, off, none⟩)) (hb : Cells w b off M) (hl : M.length = n) :
    (execOp ρ ⟨dst, .load t x, ty, pos, aft, gd⟩).run P w = .ok (.value (.agg M.toArray)) w := by
  have hc := run_loadCells_list (P := P) w ⟨b, off, none⟩ M (fun j v hj => by rw [addr_add]; exact hb j v hj)
  rw [hl] at hc
  simp [execOp, Instr.loadAt, hx, Instr.sureAddr, loadVar, run_isAgg ht, run_sizeOf ht, hc]

theorem aw_loadC {P : Program} {ops : Array Oper} {Q : Exit → Act → World → Prop} {a : Act} {w : World} {rest : List Oper} {dst : Option Tmp} {ty : TypeId} {pos : String} {aft : Array Edge} {t : TypeId} {x : Operand} {b off n : Nat} {M : List Value}
    (ht : aggSize P t n) (hx : a.eval x = .pointer (some ⟨b, off, none⟩)) (hb : Cells w b off M) (hl : M.length = n) (h : wpList P ops Q rest (a.put dst (.agg M.toArray)) w) : wpList P ops Q (⟨dst, .load t x, ty, pos, aft, none⟩ :: rest) a w :=
  wpList_run rfl (run_load_cells ht hx hb hl) h

theorem stop_make {P : Program} {ops : Array Oper} {Q : Exit → Act → World → Prop} {a : Act} {w : World} {rest : List Oper} {dst : Option Tmp} {ty : TypeId} {pos : String} {aft : Array Edge} {x y : Operand} (t : TypeId)
    (h : Hid (wpList P ops Q (⟨dst, .makeSlice t x y, ty, pos, aft, none⟩ :: rest) a w)) : wpList P ops Q (⟨dst, .makeSlice t x y, ty, pos, aft, none⟩ :: rest) a w := h.out
theorem stop_convert {P : Program} {ops : Array Oper} {Q : Exit → Act → World → Prop} {a : Act} {w : World} {rest : List Oper} {dst : Option Tmp} {ty : TypeId} {pos : String} {aft : Array Edge} {x : Operand} (t u : TypeId)
    (h : Hid (wpList P ops Q (⟨dst, .convert t u x, ty, pos, aft, none⟩ :: rest) a w)) : wpList P ops Q (⟨dst, .convert t u x, ty, pos, aft, none⟩ :: rest) a w := h.out
theorem stop_append {P : Program} {ops : Array Oper} {Q : Exit → Act → World → Prop} {a : Act} {w : World} {rest : List Oper} {dst : Option Tmp} {ty : TypeId} {pos : String} {aft : Array Edge} {x y : Operand} (t : TypeId)
    (h : Hid (wpList P ops Q (⟨dst, .call { callee := .builtin .append, args := #[x, y], argTypes := #[t, t] }, ty, pos, aft, none⟩ :: rest) a w)) : wpList P ops Q (⟨dst, .call { callee := .builtin .append, args := #[x, y], argTypes := #[t, t] }, ty, pos, aft, none⟩ :: rest) a w := h.out

/-- A call that changes the world. -/
theorem clW {P : Program} {md : Region.Mode} {ops : Array Oper} {Q : Exit → Act → World → Prop} {S : World → Prop} {fuel : Nat} {listed : Array Bool} {a : Act} {w : World} (i : Nat) {oi : Oper} {f : FuncId} {args : Array Value} {R : Ending → World → Prop} (hi : ops[i]? = some oi) (hr : Region.ready md ops listed = [i]) (hw : Region.wanted oi (yielded ops a.tmps) = true) (hrun : (execOp a.eval oi).run P w = .ok (.enter f args) w)
    (hc : Calls P f args w R) (h : ∀ e w', R e w' → ∃ v, e = .returned v ∧ S w' ∧ wpAnyH P md ops Q S fuel (listed.setIfInBounds i true) (a.put oi.dst v) w') : wpAnyH P md ops Q S (fuel + 1) listed a w := by
  refine wpAnyH_all hr (by simp) ?_
  intro j hj
  simp at hj
  subst hj
  unfold wpOp
  simp only [hi, hw, if_true]
  refine .inl ?_
  unfold Oper.wp
  rw [hrun]
  exact hc.mono fun e w' hR => by
    obtain ⟨v, rfl, h1, h2⟩ := h e w' hR
    exact ⟨h1, h2⟩

/-- A byte's number. -/
def numOf (v : Value) : Int := match v with | .int _ n => n | _ => 0
def strV (M : List Value) : ByteArray := strOfNums (M.map numOf)

section
variable {ρ : Operand → Value} {w : World} {dst : Option Tmp} {ty : TypeId} {pos : String} {aft : Array Edge} {gd : Option (Nat × Bool)}

theorem r_str {x : Operand} {b so len cap : Nat} {M : List Value} (hx : ρ x = .slice (some ⟨b, so, none⟩) len cap) (hc : Cells w b so M) (hl : M.length = len) (hb : ∀ v ∈ M, isByte v) :
    (execOp ρ ⟨dst, .convert 28 9 x, ty, pos, aft, gd⟩).run Try.prog w = .ok (.value (.string (strV M))) w := by
  have h := run_convert_bytes_arg (P := Try.prog) w 28 5 Try.underlying28 Try.underlying5 b so len cap (M.map numOf) (by simpa using hl) (fun i hi => by
    have hi' : i < M.length := by omega
    have h1 := hc i M[i] (List.getElem?_eq_getElem hi')
    obtain ⟨n, hn, _⟩ := hb M[i] (List.getElem_mem hi')
    rw [h1, hn]
    simp [List.getD, List.getElem?_eq_getElem hi', numOf, hn]) 9 Try.underlying9
  simp [execOp, hx, h, strV]

theorem r_append28 {x y : Operand} {u v v' : Value} {w' : World} (hx : ρ x = u) (hy : ρ y = v) (h : (Builtin.append_ #[28, 28] ty #[u, v]).run Try.prog w = .ok v' w') :
    (execOp ρ ⟨dst, .call { callee := .builtin .append, args := #[x, y], argTypes := #[28, 28] }, ty, pos, aft, gd⟩).run Try.prog w = .ok (.value v') w' := by
  simp [execOp, resolve, invoke, builtin, hx, hy, h]
theorem r_pick {x y z : Operand} {v : Value} (hx : ρ x = .bool true) (hy : ρ y = v) : (execOp ρ ⟨dst, .pick x y z, ty, pos, aft, gd⟩).run Try.prog w = .ok (.value v) w := by
  go_simp
theorem r_assign {x : Operand} {v : Value} (hx : ρ x = v) : (execOp ρ ⟨dst, .assign x, ty, pos, aft, gd⟩).run Try.prog w = .ok (.value v) w := by
  go_simp
theorem r_not {x : Operand} {b : Bool} (hx : ρ x = .bool b) : (execOp ρ ⟨dst, .unOp .not 4 x, ty, pos, aft, gd⟩).run Try.prog w = .ok (.value (.bool (!b))) w := by
  go_simp
theorem r_eql25 {x y : Operand} {i : Int} (hx : ρ x = .int .i64 i) (hy : ρ y = .int .i64 i) : (execOp ρ ⟨dst, .binOp .eql 25 x y 25, ty, pos, aft, gd⟩).run Try.prog w = .ok (.value (.bool true)) w := by
  go_simp
theorem r_eql3 {x y : Operand} {i : Int} (hx : ρ x = .int .i64 i) (hy : ρ y = .int .i64 i) : (execOp ρ ⟨dst, .binOp .eql 3 x y 3, ty, pos, aft, gd⟩).run Try.prog w = .ok (.value (.bool true)) w := by
  go_simp
theorem r_eql9 {x y : Operand} {s : ByteArray} (hx : ρ x = .string s) (hy : ρ y = .string s) : (execOp ρ ⟨dst, .binOp .eql 9 x y 9, ty, pos, aft, gd⟩).run Try.prog w = .ok (.value (.bool true)) w := by
  go_simp
theorem r_len28 {x : Operand} {ao : Option Addr} {l c : Nat} (hx : ρ x = .slice ao l c) : (execOp ρ ⟨dst, .call { callee := .builtin .len, args := #[x], argTypes := #[28] }, ty, pos, aft, gd⟩).run Try.prog w = .ok (.value (.int .i64 l)) w := by
  go_simp
theorem r_slice54 {x : Operand} {b : Nat} (hx : ρ x = .pointer (some ⟨b, 0, none⟩)) : (execOp ρ ⟨dst, .slice 54 x none none none, ty, pos, aft, gd⟩).run Try.prog w = .ok (.value (.slice (some ⟨b, 0, none⟩) 64 64)) w := by
  go_simp
theorem r_call1 {f : FuncId} {x : Operand} {v : Value} {t : TypeId} {fn : Func} {c : Code} (hf : Try.prog.funcs[f]? = some fn) (hn : (fn.name == "runtime.NumGoroutine") = false) (hb : fn.body = some c) (hfv : ρ (.func f) = .func (.func f) #[] #[]) (hx : ρ x = v) :
    (execOp ρ ⟨dst, .call { callee := .value (.func f), args := #[x], argTypes := #[t] }, ty, pos, aft, gd⟩).run Try.prog w = .ok (.enter f #[v]) w := by
  have h := enters_of hf hn hb #[v] w
  simp [execOp, resolve, hfv, hx, Deferred.ofValue, invoke, h]
end

end Go.Proofs.Ytjepiaacaemkhaa
