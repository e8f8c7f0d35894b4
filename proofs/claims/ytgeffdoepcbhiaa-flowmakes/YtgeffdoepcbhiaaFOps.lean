/-
  The run of single operations, for regions that draw their order.
-/
import Derived.Test.YtgeffdoepcbhiaaMakesB
namespace Go.Proofs.Ytgeffdoepcbhiaa
open Go.RowKit Go.Shelf
set_option linter.unusedSimpArgs false
set_option linter.unusedVariables false

section
variable {ρ : Operand → Value} {w : World} {dst : Option Tmp} {ty : TypeId} {pos : String} {aft : Array Edge} {gd : Option (Nat × Bool)} {x y z : Operand}
theorem r_move {v : Value} (hx : ρ x = v) : (execOp ρ ⟨dst, .move x, ty, pos, aft, gd⟩).run Try.prog w = .ok (.value v) w := by
  go_simp
theorem r_assign {v : Value} (hx : ρ x = v) : (execOp ρ ⟨dst, .assign x, ty, pos, aft, gd⟩).run Try.prog w = .ok (.value v) w := by
  go_simp
theorem r_pick {v : Value} (hx : ρ x = .bool true) (hy : ρ y = v) : (execOp ρ ⟨dst, .pick x y z, ty, pos, aft, gd⟩).run Try.prog w = .ok (.value v) w := by
  go_simp
theorem r_pickF {v : Value} (hx : ρ x = .bool false) (hz : ρ z = v) : (execOp ρ ⟨dst, .pick x y z, ty, pos, aft, gd⟩).run Try.prog w = .ok (.value v) w := by
  go_simp
theorem r_not {b : Bool} (hx : ρ x = .bool b) : (execOp ρ ⟨dst, .unOp .not 4 x, ty, pos, aft, gd⟩).run Try.prog w = .ok (.value (.bool (!b))) w := by
  go_simp
theorem r_eql3 {p q : Int} (hx : ρ x = .int .i64 p) (hy : ρ y = .int .i64 q) : (execOp ρ ⟨dst, .binOp .eql 3 x y 3, ty, pos, aft, gd⟩).run Try.prog w = .ok (.value (.bool (decide (p = q)))) w := by
  go_simp
  rw [Bool.eq_iff_iff]; simp
theorem r_len22 {ao : Option Addr} {l c : Nat} (hx : ρ x = .slice ao l c) : (execOp ρ ⟨dst, .call { callee := .builtin .len, args := #[x], argTypes := #[22] }, ty, pos, aft, gd⟩).run Try.prog w = .ok (.value (.int .i64 l)) w := by
  go_simp
theorem r_call1 {f : FuncId} {v : Value} {t : TypeId} {fn : Func} {c : Code} (hf : Try.prog.funcs[f]? = some fn) (hn : (fn.name == "runtime.NumGoroutine") = false) (hb : fn.body = some c) (hfv : ρ (.func f) = .func (.func f) #[] #[]) (hx : ρ x = v) :
    (execOp ρ ⟨dst, .call { callee := .value (.func f), args := #[x], argTypes := #[t] }, ty, pos, aft, gd⟩).run Try.prog w = .ok (.enter f #[v]) w := by
  have h := enters_of hf hn hb #[v] w
  simp [execOp, resolve, hfv, hx, Deferred.ofValue, invoke, h]
theorem r_call2 {f : FuncId} {u v : Value} {t s : TypeId} {fn : Func} {c : Code} (hf : Try.prog.funcs[f]? = some fn) (hn : (fn.name == "runtime.NumGoroutine") = false) (hb : fn.body = some c) (hfv : ρ (.func f) = .func (.func f) #[] #[]) (hx : ρ x = u) (hy : ρ y = v) :
    (execOp ρ ⟨dst, .call { callee := .value (.func f), args := #[x, y], argTypes := #[t, s] }, ty, pos, aft, gd⟩).run Try.prog w = .ok (.enter f #[u, v]) w := by
  have h := enters_of hf hn hb #[u, v] w
  simp [execOp, resolve, hfv, hx, hy, Deferred.ofValue, invoke, h]
theorem r_call3 {f : FuncId} {u v t : Value} {t1 t2 t3 : TypeId} {fn : Func} {c : Code} (hf : Try.prog.funcs[f]? = some fn) (hn : (fn.name == "runtime.NumGoroutine") = false) (hb : fn.body = some c) (hfv : ρ (.func f) = .func (.func f) #[] #[]) (hx : ρ x = u) (hy : ρ y = v) (hz : ρ z = t) :
    (execOp ρ ⟨dst, .call { callee := .value (.func f), args := #[x, y, z], argTypes := #[t1, t2, t3] }, ty, pos, aft, gd⟩).run Try.prog w = .ok (.enter f #[u, v, t]) w := by
  have h := enters_of hf hn hb #[u, v, t] w
  simp [execOp, resolve, hfv, hx, hy, hz, Deferred.ofValue, invoke, h]
theorem r_ld3 {b o : Nat} {v : Value} (hx : ρ x = .pointer (some ⟨b, o, none⟩)) (hc : w.cell? ⟨b, o, none⟩ = some v) : (execOp ρ ⟨dst, .load 3 x, ty, pos, aft, gd⟩).run Try.prog w = .ok (.value v) w := by
  go_simp
theorem r_ld22 {b o : Nat} {v : Value} (hx : ρ x = .pointer (some ⟨b, o, none⟩)) (hc : w.cell? ⟨b, o, none⟩ = some v) : (execOp ρ ⟨dst, .load 22 x, ty, pos, aft, gd⟩).run Try.prog w = .ok (.value v) w := by
  go_simp
theorem r_idx37_0 {b : Nat} (hx : ρ x = .pointer (some ⟨b, 0, none⟩)) (hy : ρ y = .int .i64 0) : (execOp ρ ⟨dst, .indexAddr 37 x y, ty, pos, aft, gd⟩).run Try.prog w = .ok (.value (.pointer (some ⟨b, 0, none⟩))) w := by
  go_simp
theorem r_idx37_1 {b : Nat} (hx : ρ x = .pointer (some ⟨b, 0, none⟩)) (hy : ρ y = .int .i64 1) : (execOp ρ ⟨dst, .indexAddr 37 x y, ty, pos, aft, gd⟩).run Try.prog w = .ok (.value (.pointer (some ⟨b, 1, none⟩))) w := by
  go_simp
theorem r_idx46 {b off len cap : Nat} (i : Nat) {k : IntKind} (hx : ρ x = .slice (some ⟨b, off, none⟩) len cap) (hy : ρ y = .int k i) (hi : i < len) :
    (execOp ρ ⟨dst, .indexAddr 46 x y, ty, pos, aft, gd⟩).run Try.prog w = .ok (.value (.pointer (some ⟨b, off + i, none⟩))) w := by
  have h0 : ¬ ((i : Int) < 0) := by omega
  have h1 : (i : Int) < (len : Int) := by omega
  go_simp
end
section
variable {P : Program} {ops : Array Oper} {Q : Exit → Act → World → Prop} {md : Region.Mode} {S : World → Prop} {m fuel : Nat} {listed : Array Bool} {a : Act} {w w' : World}
/-- The only one that may come up stores. -/
theorem oneKS (i : Nat) {oi : Oper} (hr : Region.ready md ops listed = [i]) (hi : ops[i]? = some oi) (hd : oi.dst = none) (hw : Region.wanted oi (yielded ops a.tmps) = true) (hrun : (execOp a.eval oi).run P w = .ok .skip w') (hS : S w')
    (h : wpAnyM P md ops Q S m fuel (listed.setIfInBounds i true) a w') : wpAnyM P md ops Q S m (fuel + 1) listed a w := by
  refine oneS i hr ?_
  unfold wpOp
  simp only [hi, hw, if_true]
  refine .inl ?_
  unfold Oper.wp
  rw [hrun]
  refine ⟨fun _ => hS, ?_⟩
  rw [hd]
  exact h
end
/-- The cells of a slice of one's own, whatever is made beside it. -/
theorem own_cells {W : World} {e : TypeId} {v : Value} {n : Nat} {vs : List Value} (h : W.ownsRow 0 e 1 v n vs) : ∃ ao c, v = .slice ao n c ∧ vs.length = n ∧ ∀ i, i < n → ∃ g off, ao = some ⟨g, off, none⟩ ∧ ∀ W', Kept (fun _ => False) W W' → W'.cell? ⟨g, off + i, none⟩ = vs[i]? := by
  have hl : vs.length = n := by have := h.1; omega
  obtain ⟨ao, c, rfl, hc, hsrc, _⟩ := ownsRow_src h
  refine ⟨ao, c, by rw [hl], hl, fun i hi => ?_⟩
  obtain ⟨g, off, rfl, hcs⟩ := hsrc (by omega)
  refine ⟨g, off, rfl, fun W' hk => ?_⟩
  have hi2 : i < vs.length := by omega
  rw [List.getElem?_eq_getElem hi2]
  exact (hk.cells hcs (fun h => h)) i _ (List.getElem?_eq_getElem hi2)
/-- What FlowMakes holds on the way: the bound in bb, the count in bc. -/
structure MS (w wi : World) (bb bc : Nat) (b : Int) (c : Nat) : Prop where
  k : Kept (fun _ => False) w wi
  b : Blk wi bb [.int .i64 b] 3
  c : Blk wi bc [.int .i64 (c : Nat)] 3
  ne : bb ≠ bc
  lb : w.heap.size ≤ bb
  lc : w.heap.size ≤ bc
theorem MS.kept {w wi wj : World} {bb bc : Nat} {b : Int} {c : Nat} (h : MS w wi bb bc b c) (hk : Kept (fun _ => False) wi wj) : MS w wj bb bc b c := ⟨h.k.trans hk (fun _ _ h => h), hk.blk h.b (fun h => h), hk.blk h.c (fun h => h), h.ne, h.lb, h.lc⟩
theorem MS.cnt {w wi wj : World} {bb bc : Nat} {b : Int} {c c' : Nat} (h : MS w wi bb bc b c) (hk : Kept (fun k => k = bc) wi wj) (hc : Blk wj bc [.int .i64 (c' : Nat)] 3) : MS w wj bb bc b c' := ⟨h.k.trans hk (fun k hk h' => by have := h.lc; omega), hk.blk h.b h.ne, hc, h.ne, h.lb, h.lc⟩
/-- The sequence that counts, at hand. -/
theorem MS.asked {w wi wj : World} {bb bc : Nat} {b : Int} {v : Value} {xs : List I64} (h : MS w wi bb bc b 0) (hv : SrcV w v (xs.map DI)) (hl : xs.length ≤ 1000000) {bl bp : Nat} (h1 : Blk wj bl [v] 22) (h2 : Blk wj bp [.pointer (some ⟨bc, 0, none⟩)] 40) (hk : Kept (fun _ => False) wi wj) (h3 : wi.heap.size ≤ bl) (h4 : wi.heap.size ≤ bp) :
    SeqOk Try.prog (.func (.func 51) #[] #[.pointer (some ⟨bl, 0, none⟩), .pointer (some ⟨bp, 0, none⟩)]) (EncD DI) xs (askX bl bp xs v) (fun k => k = bc) (askP bc) wj := by
  refine asked_ok h1 h2 (hk.blk h.c (fun h => h)) (hv.kept (h.k.trans hk (fun _ _ h => h)) (fun _ _ h => h)) hl ?_
  have hc := h.c.lt
  have hlc := h.lc
  rintro k (hx | hx | hx)
  · omega
  · omega
  · have := hv.lt (by rw [List.length_map]; exact hx.1) hx.2
    omega
theorem of_M (w : World) (v : Value) (xs : List I64) (hv : SrcV w v (xs.map DI)) (hl : xs.length ≤ 1000000) : Calls Try.prog 11 #[v] w fun e w' => ∃ b, e = .returned (.func (.func 43) #[] #[.pointer (some ⟨b, 0, none⟩)]) ∧ (∃ X, SeqOk Try.prog (.func (.func 43) #[] #[.pointer (some ⟨b, 0, none⟩)]) (EncD DI) xs X (fun _ => False) (fun _ _ _ => True) w') ∧ Kept (fun _ => False) w w' := by
  refine (of_atI w v _ hv (DI_ones xs) (by rw [List.length_map]; exact hl)).mono ?_
  rintro e w2 ⟨b, v', rfl, h1, h2, h3, h4, h5⟩
  rw [List.length_map] at h2
  exact ⟨b, rfl, ⟨_, of_okI (D := DI) (xs := xs) h1 h2 (fun x => (DI_one x).1) hl⟩, h3⟩
/-- List of a sequence that changes nothing. -/
theorem list_M {W : World} {sv : Value} {ys : List I64} {X : NSet} {Post : Bool → List I64 → World → Prop} (hs : SeqOk Try.prog sv (EncD DI) ys X (fun _ => False) Post W) (hl : ys.length ≤ 1000000) : Calls Try.prog 9 #[sv] W fun e W' => ∃ kv, e = .returned kv ∧ W'.ownsRow 0 3 1 kv ys.length (ys.map DI) ∧ Kept (fun _ => False) W W' := by
  refine (list_atI hs (encD_one DI_one) hl).mono ?_
  rintro e w4 ⟨kv, vs, G, rfl, g1, g2, g3, _, g5, g6⟩
  have := g2.encD
  subst this
  exact ⟨kv, rfl, g1, g3⟩
theorem map_M {W : World} {sv : Value} {xs : List I64} {X : NSet} (hs : SeqOk Try.prog sv (EncD DI) xs X (fun _ => False) (fun _ _ _ => True) W) : Calls Try.prog 25 #[sv, .func (.func 26) #[] #[]] W fun e W' => ∃ sv', e = .returned sv' ∧ (∃ X Post, SeqOk Try.prog sv' (EncD DI) (xs.map fX) X (fun _ => False) Post W') ∧ Kept (fun _ => False) W W' := by
  refine (map_atI W sv _ hs.cells ⟨_, _, rfl⟩).mono ?_
  rintro e w3 ⟨bs3, bi3, rfl, h1, h2, h3, h4, h5⟩
  exact ⟨_, rfl, ⟨_, _, map_okI (f := fX) (D := DI) (hs.kept h3 (fun _ h => h.elim)) ⟨_, _, rfl⟩ (f26_ok w3) (fun _ h => h.elim) h1 h2 ⟨fun h => h, fun h => h⟩⟩, h3⟩
theorem keep_M {W : World} {sv : Value} {xs : List I64} {X : NSet} {bb : Nat} {b : Int} (hs : SeqOk Try.prog sv (EncD DI) xs X (fun _ => False) (fun _ _ _ => True) W) (hb : Blk W bb [.int .i64 b] 3) : Calls Try.prog 10 #[sv, .func (.func 16) #[] #[.pointer (some ⟨bb, 0, none⟩)]] W fun e W' => ∃ sv', e = .returned sv' ∧ (∃ X Post, SeqOk Try.prog sv' (EncD DI) (xs.filter (pB b)) X (fun _ => False) Post W') ∧ Kept (fun _ => False) W W' := by
  refine (keep_atI W sv _ hs.cells ⟨_, _, rfl⟩).mono ?_
  rintro e w3 ⟨bs3, bi3, rfl, h1, h2, h3, h4, h5⟩
  exact ⟨_, rfl, ⟨_, _, keep_okI (p := pB b) (hs.kept h3 (fun _ h => h.elim)) ⟨_, _, rfl⟩ (f16_ok (h3.blk hb (fun h => h))) (fun k h => by rw [h]; exact ⟨(h3.blk hb (fun h => h)).lt, fun h => h⟩) h1 h2 ⟨fun h => h, fun h => h⟩⟩, h3⟩
theorem join_M {W : World} {v s1 s2 : Value} {xs ys : List I64} {X1 X2 : NSet} (hs1 : SeqOk Try.prog s1 (EncD DI) xs X1 (fun _ => False) (fun _ _ _ => True) W) (hs2 : SeqOk Try.prog s2 (EncD DI) ys X2 (fun _ => False) (fun _ _ _ => True) W) (hf1 : IsFn s1) (hf2 : IsFn s2) (hv : SrcV W v [s1, .nilFunc, s2]) : Calls Try.prog 27 #[v] W fun e W' => ∃ sv', e = .returned sv' ∧ (∃ X Post, SeqOk Try.prog sv' (EncD DI) (xs ++ ys) X (fun _ => False) Post W') ∧ Kept (fun _ => False) W W' := by
  have hone : ∀ u ∈ [s1, .nilFunc, s2], u.oneCell' = true := fun u hu => by
    obtain ⟨_, _, rfl⟩ := hf1
    obtain ⟨_, _, rfl⟩ := hf2
    simp at hu
    rcases hu with rfl | rfl | rfl <;> rfl
  refine (join_atI W v _ hv hone (by simp)).mono ?_
  rintro e w3 ⟨b, v', rfl, h1, h2, h3, h4, h5⟩
  have hX : ∀ k, X1 k ∨ X2 k → k < W.heap.size := fun k h => h.elim (fun h => hs1.lt k (.inl h)) (fun h => hs2.lt k (.inl h))
  have hsq : SeqsI (EncD DI) [s1, .nilFunc, s2] [xs, [], ys] (fun k => X1 k ∨ X2 k) w3 := ⟨rfl, fun i sv zs hi hy => by
    match i with
    | 0 => simp at hi hy; subst hi hy; exact (hs1.widen (fun k h => .inl h) (fun k h => ⟨hX k h, fun h => h⟩)).kept h3 (fun _ h => h.elim)
    | 1 => simp at hi hy; subst hi hy; exact SeqOk.nil Try.prog (EncD DI) _ (EncD.ok _ _) w3 (fun k h => Nat.lt_of_lt_of_le (hX k h) h3.size)
    | 2 => simp at hi hy; subst hi hy; exact (hs2.widen (fun k h => .inr h) (fun k h => ⟨hX k h, fun h => h⟩)).kept h3 (fun _ h => h.elim)
    | i + 3 => simp at hi⟩
  have := join_okI (EncD.ok _ _) hsq (fun k h => Nat.lt_of_lt_of_le (hX k h) h3.size) (by simp) h1 h2
  rw [show [xs, [], ys].flatten = xs ++ ys by simp] at this
  exact ⟨_, rfl, ⟨_, _, this⟩, h3⟩
end Go.Proofs.Ytgeffdoepcbhiaa
