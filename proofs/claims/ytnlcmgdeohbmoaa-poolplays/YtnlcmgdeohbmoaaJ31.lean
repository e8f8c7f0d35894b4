/-
  What the reference of layer 1 wants beside the device's texts: bytes as strings, single steps.
-/
import Derived.Test.YtnlcmgdeohbmoaaJ25
namespace Go.Proofs.Ytnlcmgdeohbmoaa.D
open Go.RowKit Go.Shelf
set_option linter.unusedSimpArgs false
set_option linter.unusedVariables false
set_option maxRecDepth 100000

section
variable {P : Program} {md : Region.Mode} {ops : Array Oper} {Q : Exit → Act → World → Prop} {S : World → Prop} {fuel : Nat} {listed : Array Bool} {a : Act} {w w' : World}

theorem wanted_none {o : Oper} (hg : o.guard = none) : Region.wanted o (yielded ops a.tmps) = true := by simp [Region.wanted, hg]

theorem wanted_some {o oj : Oper} {j d : Nat} {bb : Bool} (hg : o.guard = some (j, bb)) (hj : ops[j]? = some oj) (hd : oj.dst = some d) (hb : a.eval (.tmp d) = .bool bb) (hs : d < a.tmps.size) : Region.wanted o (yielded ops a.tmps) = true := by
  have hb' : a.tmps[d]? = some (.bool bb) := by
    simp only [Act.eval, Array.getD_eq_getD_getElem?] at hb
    rw [Array.getElem?_eq_getElem hs] at hb ⊢
    simpa using hb
  simp [Region.wanted, hg, yielded, hj, hd, hb']

theorem tk (i : Nat) {oi : Oper} {v : Value} (hi : ops[i]? = some oi) (hs : Region.noSelect ops = true) (hf : Region.free md ops listed i = true) (hr : (Region.ready md ops listed).contains i = true)
    (hw : Region.wanted oi (yielded ops a.tmps) = true) (hQ : ∀ c a w, Q (.panic c) (a.put oi.dst v) w → Q (.panic c) a w) (hS : S w) (hrun : ∀ w, S w → (execOp a.eval oi).run P w = .ok (.value v) w)
    (h : wpAnyH P md ops Q S fuel (listed.setIfInBounds i true) (a.put oi.dst v) w) : wpAnyH P md ops Q S (fuel + 1) listed a w :=
  wpAnyH_take hi hs hf hr hQ (.inl ⟨hw, hrun⟩) hS h

theorem dn (i : Nat) {oi : Oper} {v : Value} (hi : ops[i]? = some oi) (hr : Region.ready md ops listed = [i]) (hw : Region.wanted oi (yielded ops a.tmps) = true) (hrun : (execOp a.eval oi).run P w = .ok (.value v) w') (hS : S w')
    (h : wpAnyH P md ops Q S fuel (listed.setIfInBounds i true) (a.put oi.dst v) w') : wpAnyH P md ops Q S (fuel + 1) listed a w := by
  refine wpAnyH_all hr (by simp) ?_
  intro j hj
  simp at hj
  subst hj
  unfold wpOp
  simp only [hi, hw, if_true]
  exact .inl (by unfold Oper.wp; rw [hrun]; exact ⟨hS, h⟩)

theorem cl (i : Nat) {oi : Oper} {v : Value} {f : FuncId} {args : Array Value} (hi : ops[i]? = some oi) (hr : Region.ready md ops listed = [i]) (hw : Region.wanted oi (yielded ops a.tmps) = true) (hrun : (execOp a.eval oi).run P w = .ok (.enter f args) w)
    (hc : Calls P f args w fun e w' => e = .returned v ∧ w = w') (hS : S w) (h : wpAnyH P md ops Q S fuel (listed.setIfInBounds i true) (a.put oi.dst v) w) : wpAnyH P md ops Q S (fuel + 1) listed a w := by
  refine wpAnyH_all hr (by simp) ?_
  intro j hj
  simp at hj
  subst hj
  unfold wpOp
  simp only [hi, hw, if_true]
  refine .inl ?_
  unfold Oper.wp
  rw [hrun]
  exact hc.mono fun e w' ⟨he, hw'⟩ => by subst he; subst hw'; exact ⟨hS, h⟩

theorem region_held {id : Nat} (hm : P.follows .mixedOrders = true)
    (h : ∀ w', Kept (fun _ => False) w w' → w'.heap = w.heap → wpAnyH P .any ops Q S ops.size (Array.replicate ops.size false) a w') : (Code.region id ops true).wp P Q a w :=
  wp_region_held hm (h _ ⟨rfl, rfl, rfl, Nat.le_refl _, fun _ _ _ => rfl⟩ rfl)
end

theorem run_load_cells {P : Program} {ρ : Operand → Value} {w : World} {dst : Option Tmp} {t ty : TypeId} {x : Operand} {pos : String} {aft : Array Edge} {gd : Option (Nat × Bool)} {b off n : Nat} {M : List Value}
    (ht : aggSize P t n) (hx : ρ x = .pointer (some ⟨b, off, none⟩)) (hb : Cells w b off M) (hl : M.length = n) :
    (execOp ρ ⟨dst, .load t x, ty, pos, aft, gd⟩).run P w = .ok (.value (.agg M.toArray)) w := by
  have hc := run_loadCells_list (P := P) w ⟨b, off, none⟩ M (fun j v hj => by rw [addr_add]; exact hb j v hj)
  rw [hl] at hc
  simp [execOp, Instr.loadAt, hx, Instr.sureAddr, loadVar, run_isAgg ht, run_sizeOf ht, hc]

theorem aw_loadC {P : Program} {ops : Array Oper} {Q : Exit → Act → World → Prop} {a : Act} {w : World} {rest : List Oper} {dst : Option Tmp} {ty : TypeId} {pos : String} {aft : Array Edge} {t : TypeId} {x : Operand} {b off n : Nat} {M : List Value}
    (ht : aggSize P t n) (hx : a.eval x = .pointer (some ⟨b, off, none⟩)) (hb : Cells w b off M) (hl : M.length = n) (h : wpList P ops Q rest (a.put dst (.agg M.toArray)) w) : wpList P ops Q (⟨dst, .load t x, ty, pos, aft, none⟩ :: rest) a w :=
  wpList_run rfl (run_load_cells ht hx hb hl) h

theorem stop_make {P : Program} {ops : Array Oper} {Q : Exit → Act → World → Prop} {a : Act} {w : World} {rest : List Oper} {dst : Option Tmp} {ty : TypeId} {pos : String} {aft : Array Edge} {x y : Operand} (t : TypeId)
    (h : Hid (wpList P ops Q (⟨dst, .makeSlice t x y, ty, pos, aft, none⟩ :: rest) a w)) : wpList P ops Q (⟨dst, .makeSlice t x y, ty, pos, aft, none⟩ :: rest) a w := h.out
theorem stop_convert {P : Program} {ops : Array Oper} {Q : Exit → Act → World → Prop} {a : Act} {w : World} {rest : List Oper} {dst : Option Tmp} {ty : TypeId} {pos : String} {aft : Array Edge} {x : Operand} (t u : TypeId)
    (h : Hid (wpList P ops Q (⟨dst, .convert t u x, ty, pos, aft, none⟩ :: rest) a w)) : wpList P ops Q (⟨dst, .convert t u x, ty, pos, aft, none⟩ :: rest) a w := h.out
theorem stop_append {P : Program} {ops : Array Oper} {Q : Exit → Act → World → Prop} {a : Act} {w : World} {rest : List Oper} {dst : Option Tmp} {ty : TypeId} {pos : String} {aft : Array Edge} {x y : Operand} (t : TypeId)
    (h : Hid (wpList P ops Q (⟨dst, .call { callee := .builtin .append, args := #[x, y], argTypes := #[t, t] }, ty, pos, aft, none⟩ :: rest) a w)) : wpList P ops Q (⟨dst, .call { callee := .builtin .append, args := #[x, y], argTypes := #[t, t] }, ty, pos, aft, none⟩ :: rest) a w := h.out

/-- A call that changes the world. -/
theorem clW {P : Program} {md : Region.Mode} {ops : Array Oper} {Q : Exit → Act → World → Prop} {S : World → Prop} {fuel : Nat} {listed : Array Bool} {a : Act} {w : World} (i : Nat) {oi : Oper} {f : FuncId} {args : Array Value} {R : Ending → World → Prop} (hi : ops[i]? = some oi) (hr : Region.ready md ops listed = [i]) (hw : Region.wanted oi (yielded ops a.tmps) = true) (hrun : (execOp a.eval oi).run P w = .ok (.enter f args) w)
    (hc : Calls P f args w R) (h : ∀ e w', R e w' → ∃ v, e = .returned v ∧ S w' ∧ wpAnyH P md ops Q S fuel (listed.setIfInBounds i true) (a.put oi.dst v) w') : wpAnyH P md ops Q S (fuel + 1) listed a w := by
  refine wpAnyH_all hr (by simp) ?_
  intro j hj
  simp at hj
  subst hj
  unfold wpOp
  simp only [hi, hw, if_true]
  refine .inl ?_
  unfold Oper.wp
  rw [hrun]
  exact hc.mono fun e w' hR => by
    obtain ⟨v, rfl, h1, h2⟩ := h e w' hR
    exact ⟨h1, h2⟩

/-- A byte's number. -/
def numOf (v : Value) : Int := match v with | .int _ n => n | _ => 0
def strV (M : List Value) : ByteArray := strOfNums (M.map numOf)

section
variable {ρ : Operand → Value} {w : World} {dst : Option Tmp} {ty : TypeId} {pos : String} {aft : Array Edge} {gd : Option (Nat × Bool)}

theorem r_str {x : Operand} {b so len cap : Nat} {M : List Value} (hx : ρ x = .slice (some ⟨b, so, none⟩) len cap) (hc : Cells w b so M) (hl : M.length = len) (hb : ∀ v ∈ M, isByte v) :
    (execOp ρ ⟨dst, .convert 41 9 x, ty, pos, aft, gd⟩).run Try.prog w = .ok (.value (.string (strV M))) w := by
  have h := run_convert_bytes_arg (P := Try.prog) w 41 5 Try.underlying41 Try.underlying5 b so len cap (M.map numOf) (by simpa using hl) (fun i hi => by
    have hi' : i < M.length := by omega
    have h1 := hc i M[i] (List.getElem?_eq_getElem hi')
    obtain ⟨n, hn, _⟩ := hb M[i] (List.getElem_mem hi')
    rw [h1, hn]
    simp [List.getD, List.getElem?_eq_getElem hi', numOf, hn]) 9 Try.underlying9
  simp [execOp, hx, h, strV]

theorem r_append28 {x y : Operand} {u v v' : Value} {w' : World} (hx : ρ x = u) (hy : ρ y = v) (h : (Builtin.append_ #[41, 41] ty #[u, v]).run Try.prog w = .ok v' w') :
    (execOp ρ ⟨dst, .call { callee := .builtin .append, args := #[x, y], argTypes := #[41, 41] }, ty, pos, aft, gd⟩).run Try.prog w = .ok (.value v') w' := by
  simp [execOp, resolve, invoke, builtin, hx, hy, h]
theorem r_pick {x y z : Operand} {v : Value} (hx : ρ x = .bool true) (hy : ρ y = v) : (execOp ρ ⟨dst, .pick x y z, ty, pos, aft, gd⟩).run Try.prog w = .ok (.value v) w := by
  go_simp
theorem r_assign {x : Operand} {v : Value} (hx : ρ x = v) : (execOp ρ ⟨dst, .assign x, ty, pos, aft, gd⟩).run Try.prog w = .ok (.value v) w := by
  go_simp
theorem r_not {x : Operand} {b : Bool} (hx : ρ x = .bool b) : (execOp ρ ⟨dst, .unOp .not 4 x, ty, pos, aft, gd⟩).run Try.prog w = .ok (.value (.bool (!b))) w := by
  go_simp
theorem r_eql25 {x y : Operand} {i : Int} (hx : ρ x = .int .i64 i) (hy : ρ y = .int .i64 i) : (execOp ρ ⟨dst, .binOp .eql 25 x y 25, ty, pos, aft, gd⟩).run Try.prog w = .ok (.value (.bool true)) w := by
  go_simp
theorem r_eql3 {x y : Operand} {i : Int} (hx : ρ x = .int .i64 i) (hy : ρ y = .int .i64 i) : (execOp ρ ⟨dst, .binOp .eql 3 x y 3, ty, pos, aft, gd⟩).run Try.prog w = .ok (.value (.bool true)) w := by
  go_simp
theorem r_eql9 {x y : Operand} {s : ByteArray} (hx : ρ x = .string s) (hy : ρ y = .string s) : (execOp ρ ⟨dst, .binOp .eql 9 x y 9, ty, pos, aft, gd⟩).run Try.prog w = .ok (.value (.bool true)) w := by
  go_simp
theorem r_len28 {x : Operand} {ao : Option Addr} {l c : Nat} (hx : ρ x = .slice ao l c) : (execOp ρ ⟨dst, .call { callee := .builtin .len, args := #[x], argTypes := #[41] }, ty, pos, aft, gd⟩).run Try.prog w = .ok (.value (.int .i64 l)) w := by
  go_simp
theorem r_slice54 {x : Operand} {b : Nat} (hx : ρ x = .pointer (some ⟨b, 0, none⟩)) : (execOp ρ ⟨dst, .slice 78 x none none none, ty, pos, aft, gd⟩).run Try.prog w = .ok (.value (.slice (some ⟨b, 0, none⟩) 64 64)) w := by
  go_simp
theorem r_call1 {f : FuncId} {x : Operand} {v : Value} {t : TypeId} {fn : Func} {c : Code} (hf : Try.prog.funcs[f]? = some fn) (hn : (fn.name == "runtime.NumGoroutine") = false) (hb : fn.body = some c) (hfv : ρ (.func f) = .func (.func f) #[] #[]) (hx : ρ x = v) :
    (execOp ρ ⟨dst, .call { callee := .value (.func f), args := #[x], argTypes := #[t] }, ty, pos, aft, gd⟩).run Try.prog w = .ok (.enter f #[v]) w := by
  have h := enters_of hf hn hb #[v] w
  simp [execOp, resolve, hfv, hx, Deferred.ofValue, invoke, h]
end

theorem put_defers (a : Act) (d : Option Nat) (v : Value) : (a.put d v).defers = a.defers := by cases d <;> rfl
theorem abs1 {p : Act → Prop} {a : Act} (i n : Nat) {v : Value} {ds : List Deferred} (h1 : a.eval (.tmp i) = v) (hs : a.tmps.size = n) (hd : a.defers = ds) (h : ∀ a' : Act, a'.eval (.tmp i) = v → a'.tmps.size = n → a'.defers = ds → p a') : p a := h a h1 hs hd
theorem abs5 {p : Act → Prop} {a : Act} (i1 i2 i3 i4 i5 n : Nat) {v1 v2 v3 v4 v5 : Value} {ds : List Deferred} (h1 : a.eval (.tmp i1) = v1) (h2 : a.eval (.tmp i2) = v2) (h3 : a.eval (.tmp i3) = v3) (h4 : a.eval (.tmp i4) = v4) (h5 : a.eval (.tmp i5) = v5) (hs : a.tmps.size = n) (hd : a.defers = ds)
    (h : ∀ a' : Act, a'.eval (.tmp i1) = v1 → a'.eval (.tmp i2) = v2 → a'.eval (.tmp i3) = v3 → a'.eval (.tmp i4) = v4 → a'.eval (.tmp i5) = v5 → a'.tmps.size = n → a'.defers = ds → p a') : p a := h a h1 h2 h3 h4 h5 hs hd

set_option maxRecDepth 100000 in

section
variable {ρ : Operand → Value} {w : World} {dst : Option Tmp} {ty : TypeId} {pos : String} {aft : Array Edge} {gd : Option (Nat × Bool)}
theorem r_slice2 {x lo hi : Operand} {b off len cap l h : Nat} {k1 k2 : IntKind} (hx : ρ x = .slice (some ⟨b, off, none⟩) len cap) (hlo : ρ lo = .int k1 l) (hhi : ρ hi = .int k2 h) (hlh : l ≤ h) (hh : h ≤ cap) (hc : l < cap) :
    (execOp ρ ⟨dst, .slice 41 x (some lo) (some hi) none, ty, pos, aft, gd⟩).run Try.prog w = .ok (.value (.slice (some ⟨b, off + l, none⟩) (h - l) (cap - l))) w := by
  obtain ⟨i5, hi5, hz5, hs5, hb5⟩ := info_parts Try.info5
  have h1 : ¬ cap = l := by omega
  simp [execOp, Instr.sliceAt, run_underlying Try.underlying41, Instr.slice, hx, hlo, hhi, Instr.sliceBounds, Instr.sliceBound, asIntOf, hlh, hh, sizeOf, typeInfo, hi5, hs5, h1, addr_add]
theorem r_slice1 {x lo : Operand} {b off len cap l : Nat} {k1 : IntKind} (hx : ρ x = .slice (some ⟨b, off, none⟩) len cap) (hlo : ρ lo = .int k1 l) (hlh : l ≤ len) (hc : l < cap) :
    (execOp ρ ⟨dst, .slice 41 x (some lo) none none, ty, pos, aft, gd⟩).run Try.prog w = .ok (.value (.slice (some ⟨b, off + l, none⟩) (len - l) (cap - l))) w := by
  obtain ⟨i5, hi5, hz5, hs5, hb5⟩ := info_parts Try.info5
  have h := run_slice_lo (P := Try.prog) (ρ := ρ) (w := w) (dst := dst) (ty := ty) (pos := pos) (aft := aft) (gd := gd) Try.underlying41 hi5 hx l hlo hlh hc
  rw [hs5, Nat.mul_one] at h
  exact h
end
end Go.Proofs.Ytnlcmgdeohbmoaa.D

/-
  The reference's strings: bytes as a string, cut and joined; the small functions of the reference.
-/
namespace Go.Proofs.Ytnlcmgdeohbmoaa.D
open Go.RowKit Go.Shelf
set_option linter.unusedSimpArgs false
set_option linter.unusedVariables false
set_option maxRecDepth 100000

theorem strV_size (M : List Value) : (strV M).size = M.length := by simp [strV, strOfNums_size]
theorem strV_data (M : List Value) : (strV M).data = (M.map (fun v => UInt8.ofNat (numOf v).toNat)).toArray := by
  simp [strV, strOfNums, Function.comp_def]
theorem ba_ext {a b : ByteArray} (h : a.data.toList = b.data.toList) : a = b := by
  cases a; cases b
  simp at h
  rw [h]
theorem strV_append (A B : List Value) : strV A ++ strV B = strV (A ++ B) := by
  apply ba_ext
  simp [ByteArray.data_append, strV_data]
theorem strV_extract (M : List Value) (l h : Nat) : (strV M).extract l h = strV ((M.take h).drop l) := by
  apply ba_ext
  simp [ByteArray.data_extract, strV_data, List.map_take, List.map_drop, List.drop_take]

section
variable {ρ : Operand → Value} {w : World} {dst : Option Tmp} {ty : TypeId} {pos : String} {aft : Array Edge} {gd : Option (Nat × Bool)}
theorem r_sliceS_hi {x hi : Operand} {M : List Value} {h : Nat} {k : IntKind} (hx : ρ x = .string (strV M)) (hh : ρ hi = .int k h) (hl : h ≤ M.length) :
    (execOp ρ ⟨dst, .slice 9 x none (some hi) none, ty, pos, aft, gd⟩).run Try.prog w = .ok (.value (.string (strV (M.take h)))) w := by
  have hs : h ≤ (strV M).size := by rw [strV_size]; exact hl
  have he : (strV M).extract 0 h = strV (M.take h) := by rw [strV_extract]; simp
  simp [execOp, Instr.sliceAt, run_underlying Try.underlying9, Instr.slice, hx, hh, Instr.sliceBounds, Instr.sliceBound, asIntOf, hs, he]
theorem r_sliceS_lo {x lo : Operand} {M : List Value} {l : Nat} {k : IntKind} (hx : ρ x = .string (strV M)) (hh : ρ lo = .int k l) (hl : l ≤ M.length) :
    (execOp ρ ⟨dst, .slice 9 x (some lo) none none, ty, pos, aft, gd⟩).run Try.prog w = .ok (.value (.string (strV (M.drop l)))) w := by
  have hs : l ≤ (strV M).size := by rw [strV_size]; exact hl
  have he : (strV M).extract l (strV M).size = strV (M.drop l) := by rw [strV_extract, strV_size, List.take_length]
  simp [execOp, Instr.sliceAt, run_underlying Try.underlying9, Instr.slice, hx, hh, Instr.sliceBounds, Instr.sliceBound, asIntOf, hs, he]
theorem r_sliceS2 {x lo hi : Operand} {M : List Value} {l h : Nat} {k1 k2 : IntKind} (hx : ρ x = .string (strV M)) (hlo : ρ lo = .int k1 l) (hh : ρ hi = .int k2 h) (hlh : l ≤ h) (hl : h ≤ M.length) :
    (execOp ρ ⟨dst, .slice 9 x (some lo) (some hi) none, ty, pos, aft, gd⟩).run Try.prog w = .ok (.value (.string (strV ((M.take h).drop l)))) w := by
  have hs : h ≤ (strV M).size := by rw [strV_size]; exact hl
  have he : (strV M).extract l h = strV ((M.take h).drop l) := strV_extract M l h
  simp [execOp, Instr.sliceAt, run_underlying Try.underlying9, Instr.slice, hx, hlo, hh, Instr.sliceBounds, Instr.sliceBound, asIntOf, hs, hlh, he]
theorem r_addS {x y : Operand} {A B : List Value} (hx : ρ x = .string (strV A)) (hy : ρ y = .string (strV B)) (hl : A.length + B.length ≤ 9223372036854775807) :
    (execOp ρ ⟨dst, .binOp .add 9 x y 9, ty, pos, aft, gd⟩).run Try.prog w = .ok (.value (.string (strV (A ++ B)))) w := by
  have h := run_string_add_sum (P := Try.prog) w (strV A) (strV B) (by rw [strV_size, strV_size]; exact hl)
  rw [strV_append] at h
  have hn : ¬ (9223372036854775807 < (strV A).size + (strV B).size) := by rw [strV_size, strV_size]; omega
  have ha := strV_append A B
  go_simp
end

theorem abs3 {p : Act → Prop} {a : Act} (i0 i1 i2 n : Nat) {v0 v1 v2 : Value} {ds : List Deferred} (h0 : a.eval (.tmp i0) = v0) (h1 : a.eval (.tmp i1) = v1) (h2 : a.eval (.tmp i2) = v2) (hs : a.tmps.size = n) (hd : a.defers = ds)
    (h : ∀ a' : Act, a'.eval (.tmp i0) = v0 → a'.eval (.tmp i1) = v1 → a'.eval (.tmp i2) = v2 → a'.tmps.size = n → a'.defers = ds → p a') : p a := h a h0 h1 h2 hs hd
theorem r_mul64' {ρ : Operand → Value} {w : World} {dst : Option Tmp} {ty : TypeId} {pos : String} {aft : Array Edge} {gd : Option (Nat × Bool)} {x y : Operand} {i : Nat} (hx : ρ x = .int .i64 64) (hy : ρ y = .int .i64 i) (h : i ≤ 1000000) : (execOp ρ ⟨dst, .binOp .mul 3 x y 3, ty, pos, aft, gd⟩).run Try.prog w = .ok (.value (.int .i64 ((64 * i : Nat) : Int))) w := by
  have hw : IntKind.i64.wrap (64 * (i : Int)) = ((64 * i : Nat) : Int) := by rw [IntKind.wrap_i64]; omega
  go_simp

theorem put_eq (st M : List Value) (o : Nat) (h : M.length = 64) : st.take o ++ M ++ st.drop (o + 64) = put st o M := by
  unfold put; rw [h]

set_option maxRecDepth 100000 in
set_option maxHeartbeats 2000000 in
theorem laid_any (w : World) (st M : List Value) (p : Nat) (hM : M.length = 64) (hp : 64 * p + 64 ≤ st.length) (hl : st.length ≤ 1000000) :
    Calls Try.prog 45 #[.string (strV st), .int .i64 p, .string (strV M)] w fun e w' => e = .returned (.string (strV (put st (64 * p) M))) ∧ Kept (fun _ => False) w w' ∧ w'.heap.size = w.heap.size := by
  go_enter Try.func45, Try.ntmps45
  go_wp2_with fail
  refine abs3 (p := fun a => Code.wp Try.prog _ _ a _) 0 1 2 19 (v0 := .string (strV st)) (v1 := .int .i64 p) (v2 := .string (strV M)) rfl rfl rfl rfl rfl ?_
  intro a' e0 e1 e2 hts hdf
  refine region_held (S := fun _ => True) Try.mixed ?_
  intro w1 hk1 hheap
  refine tk 0 (v := .string (strV st)) rfl (by kernel_rfl) (by kernel_rfl) (by kernel_rfl) (wanted_none rfl) (fun _ _ _ h => h) trivial (fun U hU => r_move (by simp [eval_put_ne, eval_put_eq, size_put, hts, e0])) ?_
  refine tk 1 (v := .int .i64 p) rfl (by kernel_rfl) (by kernel_rfl) (by kernel_rfl) (wanted_none rfl) (fun _ _ _ h => h) trivial (fun U hU => r_move (by simp [eval_put_ne, eval_put_eq, size_put, hts, e1])) ?_
  refine tk 2 (v := .int .i64 ((64 * p : Nat) : Int)) rfl (by kernel_rfl) (by kernel_rfl) (by kernel_rfl) (wanted_none rfl) (fun _ _ _ h => h) trivial (fun U hU => r_mul64' (i := p) rfl (by simp [eval_put_ne, eval_put_eq, size_put, hts]) (by omega)) ?_
  refine tk 3 (v := .string (strV (st.take (64 * p)))) rfl (by kernel_rfl) (by kernel_rfl) (by kernel_rfl) (wanted_none rfl) (fun _ _ _ h => h) trivial (fun U hU => r_sliceS_hi (h := 64 * p) (k := .i64) (by simp [eval_put_ne, eval_put_eq, size_put, hts]) (by simp [eval_put_ne, eval_put_eq, size_put, hts]) (by omega)) ?_
  refine tk 4 (v := .string (strV M)) rfl (by kernel_rfl) (by kernel_rfl) (by kernel_rfl) (wanted_none rfl) (fun _ _ _ h => h) trivial (fun U hU => r_move (by simp [eval_put_ne, eval_put_eq, size_put, hts, e2])) ?_
  refine tk 5 (v := .string (strV (st.take (64 * p) ++ M))) rfl (by kernel_rfl) (by kernel_rfl) (by kernel_rfl) (wanted_none rfl) (fun _ _ _ h => h) trivial (fun U hU => r_addS (by simp [eval_put_ne, eval_put_eq, size_put, hts]) (by simp [eval_put_ne, eval_put_eq, size_put, hts]) (by simp; omega)) ?_
  refine tk 6 (v := .string (strV st)) rfl (by kernel_rfl) (by kernel_rfl) (by kernel_rfl) (wanted_none rfl) (fun _ _ _ h => h) trivial (fun U hU => r_move (by simp [eval_put_ne, eval_put_eq, size_put, hts, e0])) ?_
  refine tk 7 (v := .int .i64 p) rfl (by kernel_rfl) (by kernel_rfl) (by kernel_rfl) (wanted_none rfl) (fun _ _ _ h => h) trivial (fun U hU => r_move (by simp [eval_put_ne, eval_put_eq, size_put, hts, e1])) ?_
  refine tk 8 (v := .int .i64 ((64 * p : Nat) : Int)) rfl (by kernel_rfl) (by kernel_rfl) (by kernel_rfl) (wanted_none rfl) (fun _ _ _ h => h) trivial (fun U hU => r_mul64' (i := p) rfl (by simp [eval_put_ne, eval_put_eq, size_put, hts]) (by omega)) ?_
  refine tk 9 (v := .int .i64 ((64 * p + 64 : Nat) : Int)) rfl (by kernel_rfl) (by kernel_rfl) (by kernel_rfl) (wanted_none rfl) (fun _ _ _ h => h) trivial (fun U hU => r_add (i := 64 * p) (j := 64) (by simp [eval_put_ne, eval_put_eq, size_put, hts]) rfl (by omega)) ?_
  refine tk 10 (v := .string (strV (st.drop (64 * p + 64)))) rfl (by kernel_rfl) (by kernel_rfl) (by kernel_rfl) (wanted_none rfl) (fun _ _ _ h => h) trivial (fun U hU => r_sliceS_lo (l := 64 * p + 64) (k := .i64) (by simp [eval_put_ne, eval_put_eq, size_put, hts]) (by simp [eval_put_ne, eval_put_eq, size_put, hts]) (by omega)) ?_
  refine tk 11 (v := .string (strV (st.take (64 * p) ++ M ++ st.drop (64 * p + 64)))) rfl (by kernel_rfl) (by kernel_rfl) (by kernel_rfl) (wanted_none rfl) (fun _ _ _ h => h) trivial (fun U hU => r_addS (by simp [eval_put_ne, eval_put_eq, size_put, hts]) (by simp [eval_put_ne, eval_put_eq, size_put, hts]) (by simp; omega)) ?_
  refine tk 12 (v := .string (strV (st.take (64 * p) ++ M ++ st.drop (64 * p + 64)))) rfl (by kernel_rfl) (by kernel_rfl) (by kernel_rfl) (wanted_none rfl) (fun _ _ _ h => h) trivial (fun U hU => r_assign (by simp [eval_put_ne, eval_put_eq, size_put, hts])) ?_
  refine wpAnyH_done (by kernel_rfl) ?_ _
  refine abs1 (p := fun a => Exit.then _ _ .normal a _) 6 19 (v := .string (strV (put st (64 * p) M))) (ds := []) (by simp [eval_put_ne, eval_put_eq, size_put, hts, put_eq st M (64 * p) hM]) (by simp [size_put, hts]) (by simp [put_defers, hdf]) ?_
  intro a6 e6 ht6 hd6
  go_wp2
  refine bodyPost_ret (v := .string (strV (put st (64 * p) M))) ?_ hd6 ⟨rfl, hk1, by rw [hheap]⟩
  rw [results_tmp (t := 6) rfl]
  exact congrArg (fun v => Result.ok v _) e6

end Go.Proofs.Ytnlcmgdeohbmoaa.D
