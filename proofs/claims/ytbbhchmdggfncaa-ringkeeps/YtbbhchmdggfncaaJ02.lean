/-
  The run of operations that build values of many cells.
-/
import Derived.Test.YtbbhchmdggfncaaJ01
import Derived.Test.YtbbhchmdggfncaaRows
import Derived.Laws.BitsAllLaws
import Derived.Laws.StructEq
import Derived.Shelf.Abstract
import Derived.Maps.AppendAt
namespace Go.Proofs.Ytbbhchmdggfncaa
open Go.RowKit
set_option linter.unusedSimpArgs false
set_option linter.unusedVariables false
set_option maxRecDepth 100000

theorem foldl_set (off : Nat) : ∀ (vs : List Value) (k : Nat) (cs : Array Value), off + k + vs.length ≤ cs.size →
    (vs.zipIdx k).foldl (fun (cs : Array Value) (p : Value × Nat) => cs.setIfInBounds (off + p.2) p.1) cs = (cs.toList.take (off + k) ++ vs ++ cs.toList.drop (off + k + vs.length)).toArray
  | [], k, cs, _ => by simp
  | v :: rest, k, cs, h => by
    simp only [List.zipIdx_cons, List.foldl_cons]
    rw [foldl_set off rest (k + 1) _ (by simp only [List.length_cons] at h; simp; omega)]
    have := list_seg_step cs.toList (off + k) v rest (by simp only [List.length_cons] at h; simpa using (by omega : off + k + (rest.length + 1) ≤ cs.size))
    simp only [Array.toList_setIfInBounds, List.length_cons]
    rw [show off + (k + 1) = off + k + 1 by omega]
    rw [this]

theorem fill_one (place : Nat → Option (Nat × Nat)) (cells : Array Value) (i : Nat) (v : Value) (rest : List (Nat × Value)) (off : Nat) (M : List Value) (hv : v.cells = M.toArray) (hp : place i = some (off, M.length)) (hfit : off + M.length ≤ cells.size) :
    Instr.fill place cells ((i, v) :: rest) = Instr.fill place (put cells.toList off M).toArray rest := by
  have hf := foldl_set off M 0 cells (by omega)
  have hz : v.cells.zipIdx.foldl (fun cs (c, j) => cs.setIfInBounds (off + j) c) cells = (put cells.toList off M).toArray := by
    rw [hv, ← Array.foldl_toList, Array.toList_zipIdx]
    simp only [List.toList_toArray]
    rw [hf]
    simp [put]
  have h1 : ¬ (v.cells.size ≠ M.length) := by rw [hv]; simp
  have h2 : ¬ (off + v.cells.size > cells.size) := by rw [hv]; simp; omega
  rw [Instr.fill]
  simp only [hp, h1, h2, decide_false, Bool.or_self, Bool.false_eq_true, if_false]
  rw [hz]

theorem fill_nil (place : Nat → Option (Nat × Nat)) (cells : Array Value) : Instr.fill place cells [] = some cells := by rw [Instr.fill]

theorem run_buildSlice_one {P : Program} {ρ : Operand → Value} {w : World} {dst : Option Tmp} {t ty e : TypeId} {x : Operand} {pos : String} {aft : Array Edge} {gd : Option (Nat × Bool)} {i : TypeInfo} {z : Value} {M : List Value}
    (ht : P.underlying t = some (.slice e)) (hi : P.info? e = some i) (hz : i.zero = some z) (hsz : i.size = M.length) (hpos : 0 < M.length) (hbig : M.length ≤ 16777216) (hx : ρ x = .agg M.toArray ∨ (∃ v, ρ x = v ∧ v.cells = M.toArray)) :
    (execOp ρ ⟨dst, .buildSlice t 1 #[(0, x)], ty, pos, aft, gd⟩).run P w = .ok (.value (.slice (some ⟨w.heap.size, 0, none⟩) 1 1)) (w.alloc (.cells M.toArray e)) := by
  obtain ⟨v, hv, hc⟩ : ∃ v, ρ x = v ∧ v.cells = M.toArray := by
    rcases hx with h | h
    · exact ⟨_, h, rfl⟩
    · exact h
  have h0 : ¬ (M.length = 0) := by omega
  have hf := fill_one (fun i => some (i * M.length, M.length)) ((Array.range M.length).map (z.cells[· % z.cells.size]!)) 0 v [] 0 M hc (by simp) (by simp)
  rw [fill_nil, put_whole _ _ (by simp)] at hf
  have hb : ¬ (16777216 < M.length) := by omega
  simp [execOp, Instr.buildSlice, run_underlying ht, sizeOf, typeInfo, hi, hsz, hb, h0, zeroValue, hz, hv, hf, newRow]

theorem run_build_two {P : Program} {ρ : Operand → Value} {w : World} {dst : Option Tmp} {t ty : TypeId} {x y : Operand} {pos : String} {aft : Array Edge} {gd : Option (Nat × Bool)} {i : TypeInfo} {z : Value} {fields : Array Field} {o1 s1 o2 s2 : Nat} {M1 M2 : List Value} {v1 v2 : Value}
    (hi : P.info? t = some i) (hz : i.zero = some z) (hu : P.underlying t = some (.struct fields)) (hp : fields.toList.mapM (fun f => (P.info? f.type).map fun i => (f.offset, i.size)) = some [(o1, s1), (o2, s2)])
    (hx : ρ x = v1) (hy : ρ y = v2) (h1 : v1.cells = M1.toArray) (h2 : v2.cells = M2.toArray) (hs1 : s1 = M1.length) (hs2 : s2 = M2.length) (hf1 : o1 + M1.length ≤ z.cells.size) (hf2 : o2 + M2.length ≤ z.cells.size) :
    (execOp ρ ⟨dst, .build t #[(0, x), (1, y)], ty, pos, aft, gd⟩).run P w = .ok (.value (.agg (put (put z.cells.toList o1 M1) o2 M2).toArray)) w := by
  subst hs1 hs2
  have hb : P.built t [(0, v1), (1, v2)] = some (put (put z.cells.toList o1 M1) o2 M2).toArray := by
    simp only [Program.built, hi, hu, hz, hp]
    rw [fill_one _ _ 0 v1 _ o1 M1 h1 (by simp) hf1, fill_one _ _ 1 v2 _ o2 M2 h2 (by simp) (by simp only [List.size_toArray]; rw [length_put _ _ _ (by simpa using hf1)]; simpa using hf2), fill_nil]
  have hr := run_build (P := P) w t #[(0, v1), (1, v2)] _ (by simpa using hb)
  simp [execOp, hx, hy, hr]

theorem fill_ones : ∀ (M : List Value) (k : Nat) (pre post : List Value), (∀ v ∈ M, v.cells = #[v]) → pre.length = k → post.length = M.length →
    Instr.fill (fun i => some (i * 1, 1)) (pre ++ post).toArray ((M.zipIdx k).map fun p => (p.2, p.1)) = some (pre ++ M).toArray
  | [], k, pre, post, _, _, hp => by
    obtain rfl : post = [] := List.eq_nil_of_length_eq_zero hp
    simp [fill_nil]
  | v :: M, k, pre, post, hM, hk, hp => by
    match post, hp with
    | z :: post, hp =>
      have hc := hM v (by simp)
      simp only [List.zipIdx_cons, List.map_cons]
      rw [fill_one _ _ k v _ k [v] (by rw [hc]) (by simp) (by simp; omega)]
      have e : put (pre ++ z :: post).toArray.toList k [v] = (pre ++ [v]) ++ post := by
        simp [put, ← hk]
      rw [e, fill_ones M (k + 1) (pre ++ [v]) post (fun u hu => hM u (by simp [hu])) (by simp [hk]) (by simpa using hp)]
      simp

/-- A slice of values of one cell each is built. -/
theorem run_bs1 {P : Program} {ρ : Operand → Value} {w : World} {dst : Option Tmp} {t ty e : TypeId} {es : Array (Nat × Operand)} {pos : String} {aft : Array Edge} {gd : Option (Nat × Bool)} {i : TypeInfo} {z : Value} {n : Nat}
    (ht : P.underlying t = some (.slice e)) (hi : P.info? e = some i) (hz : i.zero = some z) (hsz : i.size = 1) (M : List Value) (hn : n = M.length) (hbig : M.length ≤ 16777216) (h1 : ∀ v ∈ M, v.cells = #[v])
    (hes : es.toList.map (fun p => (p.1, ρ p.2)) = (M.zipIdx 0).map fun p => (p.2, p.1)) :
    (execOp ρ ⟨dst, .buildSlice t n es, ty, pos, aft, gd⟩).run P w = .ok (.value (.slice (some ⟨w.heap.size, 0, none⟩) n n)) (w.alloc (.cells M.toArray e)) := by
  subst hn
  have hb : ¬ (16777216 < M.length) := by omega
  have hes' : (es.map fun p => (p.1, ρ p.2)).toList = (M.zipIdx 0).map fun p => (p.2, p.1) := by simpa using hes
  by_cases h0 : M.length = 0
  · obtain rfl : M = [] := List.eq_nil_of_length_eq_zero h0
    have h2 : es = #[] := by simpa using hes
    subst h2
    simp [execOp, Instr.buildSlice, run_underlying ht, sizeOf, typeInfo, hi, hsz, fill_nil, newRow]
    rw [show Array.range 0 = #[] by simp [Array.range]]
    simp
  · have hf := fill_ones M 0 [] ((Array.range M.length).map (z.cells[· % z.cells.size]!)).toList h1 rfl (by simp)
    rw [← hes'] at hf
    simp only [List.nil_append, Array.toArray_toList] at hf
    simp only [execOp]
    simp [Instr.buildSlice, run_underlying ht, sizeOf, typeInfo, hi, hsz, hb, h0, zeroValue, hz, newRow]
    simp at hf
    rw [hf]
    simp

/-- Where the slice lies behind an append: where it lay, or in a new block. -/
theorem append_block {P : Program} (w : World) (base : Nat) (t ty e : TypeId) (i : TypeInfo) (z : Value) (size bytes : Nat) (ht : P.underlying t = some (.slice e)) (hi : P.info? e = some i) (hz : i.zero = some z)
    (hsize : i.size = size) (hby : i.bytes = bytes) (v : Value) (n : Nat) (xs : List Value) (hown : w.ownsRow base e size v n xs)
    (a : Addr) (m c : Nat) (news : List Value) (hl : news.length = m * size) (hm : 0 < m) (hnews : ∀ j u, news[j]? = some u → w.cell? (a.add j) = some u) (h1 : ∀ u ∈ news, u.oneCell' = true)
    (h63 : n + m ≤ maxLen) (hbytes : (n + m) * bytes ≤ 140737488355328) {v' : Value} {w' : World} (hr : (Builtin.append_ #[t, t] ty #[v, .slice (some a) m c]).run P w = .ok v' w') :
    ∀ k, v'.ownBlock = some k → v.ownBlock = some k ∨ w.heap.size ≤ k := by
  subst hsize
  subst hby
  intro k hk
  have hsmall : n + m ≤ 9223372036854775807 := by simp only [maxLen] at h63; omega
  rcases hown.2 with ⟨rfl, rfl⟩ | ⟨g, cap, cur, rfl, hbg, hg, hnc, hcm, hcs, htake⟩
  · have h2 := run_append_nil (P := P) w t ty e i z ht hi hz a m c news hl hnews hm (by omega) (by have hb := hbytes; simp only [Nat.zero_add] at hb; omega)
    rw [h2] at hr
    cases hr
    simp [Value.ownBlock] at hk
    exact .inr (by omega)
  · by_cases hroom : n + m ≤ cap
    · have hfit : n * i.size + news.length ≤ cur.size := by rw [hl, hcs, ← Nat.add_mul]; exact Nat.mul_le_mul_right _ hroom
      have h2 := run_append_room (P := P) w t ty e i ht hi g n cap cur hg a m c news hl hnews h1 hroom hfit
      rw [h2] at hr
      cases hr
      exact .inl hk
    · have h2 := run_append_grow (P := P) w t ty e i z ht hi hz ⟨g, 0, none⟩ n cap xs hown.1 (hown.cells (g := g) rfl) a m c news hl hnews (by omega) (by omega) (growslice_fits (by omega) hbytes)
      rw [h2] at hr
      cases hr
      simp [Value.ownBlock] at hk
      exact .inr (by omega)

end Go.Proofs.Ytbbhchmdggfncaa


/-
  A region that draws its order: its reads first, then the others one by one, each leaving what was there as it was. Stops for walking by hand. Nothing of a program's dump is used here.
-/
namespace Go.Proofs.Ytbbhchmdggfncaa
open Go.RowKit
set_option linter.unusedSimpArgs false
set_option linter.unusedVariables false
set_option maxRecDepth 100000

section
variable {P : Program} {md : Region.Mode} {ops : Array Oper} {Q : Exit → Act → World → Prop} {S S' : World → Prop} {fuel : Nat} {listed : Array Bool} {a : Act} {w w' : World}

theorem wanted_none {o : Oper} (hg : o.guard = none) : Region.wanted o (yielded ops a.tmps) = true := by simp [Region.wanted, hg]

theorem wanted_some {o oj : Oper} {j d : Nat} {bb : Bool} (hg : o.guard = some (j, bb)) (hj : ops[j]? = some oj) (hd : oj.dst = some d) (hb : a.eval (.tmp d) = .bool bb) (hs : d < a.tmps.size) : Region.wanted o (yielded ops a.tmps) = true := by
  have hb' : a.tmps[d]? = some (.bool bb) := by
    simp only [Act.eval, Array.getD_eq_getD_getElem?] at hb
    rw [Array.getElem?_eq_getElem hs] at hb ⊢
    simpa using hb
  simp [Region.wanted, hg, yielded, hj, hd, hb']

theorem wanted_not {o oj : Oper} {j d : Nat} {bb : Bool} (hg : o.guard = some (j, bb)) (hj : ops[j]? = some oj) (hd : oj.dst = some d) (hb : a.eval (.tmp d) = .bool (!bb)) (hs : d < a.tmps.size) : Region.wanted o (yielded ops a.tmps) = false := by
  have hb' : a.tmps[d]? = some (.bool (!bb)) := by
    simp only [Act.eval, Array.getD_eq_getD_getElem?] at hb
    rw [Array.getElem?_eq_getElem hs] at hb ⊢
    simpa using hb
  cases bb <;> simp [Region.wanted, hg, yielded, hj, hd, hb']

/-- A read, taken first: what was there at w0 stays as it is. -/
theorem tkK {w0 : World} (i t : Nat) {oi : Oper} {v : Value} (hk : Kept (fun _ => False) w0 w) (hi : ops[i]? = some oi) (hd : oi.dst = some t) (hs : Region.noSelect ops = true) (hf : Region.free md ops listed i = true) (hr : (Region.ready md ops listed).contains i = true)
    (hw : Region.wanted oi (yielded ops a.tmps) = true) (hQ : ∀ c a w, Q (.panic c) (a.put oi.dst v) w → Q (.panic c) a w) (hrun : ∀ U, Kept (fun _ => False) w0 U → (execOp a.eval oi).run P U = .ok (.value v) U)
    (h : wpAnyH P md ops Q (Kept (fun _ => False) w0) fuel (listed.setIfInBounds i true) (a.put (some t) v) w) : wpAnyH P md ops Q (Kept (fun _ => False) w0) (fuel + 1) listed a w := by
  rw [← hd] at h
  exact wpAnyH_take hi hs hf hr hQ (.inl ⟨hw, hrun⟩) hk h

/-- The only one that may come up. -/
theorem one (i : Nat) (hr : Region.ready md ops listed = [i]) (h : wpOp P ops Q i (fun a' w'' => S w'' ∧ wpAnyH P md ops Q S fuel (listed.setIfInBounds i true) a' w'') a w) : wpAnyH P md ops Q S (fuel + 1) listed a w := by
  refine wpAnyH_all hr (by simp) ?_
  intro j hj
  simp at hj
  subst hj
  exact h
/-- One of two. -/
theorem two (i j : Nat) (hr : Region.ready md ops listed = [i, j]) (h : wpOp P ops Q i (fun a' w'' => S w'' ∧ wpAnyH P md ops Q S fuel (listed.setIfInBounds i true) a' w'') a w)
    (h2 : wpOp P ops Q j (fun a' w'' => S w'' ∧ wpAnyH P md ops Q S fuel (listed.setIfInBounds j true) a' w'') a w) : wpAnyH P md ops Q S (fuel + 1) listed a w := by
  refine wpAnyH_all hr (by simp) ?_
  intro k hk
  simp at hk
  rcases hk with rfl | rfl
  · exact h
  · exact h2

theorem region_kept {id : Nat} (hm : P.follows .mixedOrders = true)
    (h : ∀ w', Kept (fun _ => False) w w' → w'.heap = w.heap → wpAnyH P .any ops Q (Kept (fun _ => False) w') ops.size (Array.replicate ops.size false) a w') : (Code.region id ops true).wp P Q a w :=
  wp_region_held hm (h _ ⟨rfl, rfl, rfl, Nat.le_refl _, fun _ _ _ => rfl⟩ rfl)
end

section
variable {P : Program} {ops : Array Oper} {Q : Exit → Act → World → Prop} {a : Act} {w : World} {rest : List Oper} {dst : Option Tmp} {ty : TypeId} {pos : String} {aft : Array Edge} {x y : Operand}
theorem stop_convert (t u : TypeId) (h : Hid (wpList P ops Q (⟨dst, .convert t u x, ty, pos, aft, none⟩ :: rest) a w)) : wpList P ops Q (⟨dst, .convert t u x, ty, pos, aft, none⟩ :: rest) a w := h.out
theorem stop_append (t : TypeId) (h : Hid (wpList P ops Q (⟨dst, .call { callee := .builtin .append, args := #[x, y], argTypes := #[t, t] }, ty, pos, aft, none⟩ :: rest) a w)) : wpList P ops Q (⟨dst, .call { callee := .builtin .append, args := #[x, y], argTypes := #[t, t] }, ty, pos, aft, none⟩ :: rest) a w := h.out
theorem stop_copy (t : TypeId) (h : Hid (wpList P ops Q (⟨dst, .call { callee := .builtin .copy, args := #[x, y], argTypes := #[t, t] }, ty, pos, aft, none⟩ :: rest) a w)) : wpList P ops Q (⟨dst, .call { callee := .builtin .copy, args := #[x, y], argTypes := #[t, t] }, ty, pos, aft, none⟩ :: rest) a w := h.out
theorem stop_bin {t u : TypeId} (o : BinOp) (h : Hid (wpList P ops Q (⟨dst, .binOp o t x y u, ty, pos, aft, none⟩ :: rest) a w)) : wpList P ops Q (⟨dst, .binOp o t x y u, ty, pos, aft, none⟩ :: rest) a w := h.out
theorem stop_un {t : TypeId} (o : UnOp) (h : Hid (wpList P ops Q (⟨dst, .unOp o t x, ty, pos, aft, none⟩ :: rest) a w)) : wpList P ops Q (⟨dst, .unOp o t x, ty, pos, aft, none⟩ :: rest) a w := h.out
theorem stop_bs (t : TypeId) {n : Nat} {es : Array (Nat × Operand)} (h : Hid (wpList P ops Q (⟨dst, .buildSlice t n es, ty, pos, aft, none⟩ :: rest) a w)) : wpList P ops Q (⟨dst, .buildSlice t n es, ty, pos, aft, none⟩ :: rest) a w := h.out
theorem stop_slice (t : TypeId) {l h m : Option Operand} (hh : Hid (wpList P ops Q (⟨dst, .slice t x l h m, ty, pos, aft, none⟩ :: rest) a w)) : wpList P ops Q (⟨dst, .slice t x l h m, ty, pos, aft, none⟩ :: rest) a w := hh.out
theorem stop_build (t : TypeId) {es : Array (Nat × Operand)} (h : Hid (wpList P ops Q (⟨dst, .build t es, ty, pos, aft, none⟩ :: rest) a w)) : wpList P ops Q (⟨dst, .build t es, ty, pos, aft, none⟩ :: rest) a w := h.out
end

theorem eval_put_ne (a : Act) (d t : Nat) (v : Value) (h : d ≠ t) : (a.put (some d) v).eval (.tmp t) = a.eval (.tmp t) := by
  simp [Act.put, Act.eval, Array.getD_eq_getD_getElem?, Array.getElem?_setIfInBounds, h]
theorem eval_put_eq (a : Act) (d : Nat) (v : Value) (h : d < a.tmps.size) : (a.put (some d) v).eval (.tmp d) = v := by
  simp [Act.put, Act.eval, Array.getD_eq_getD_getElem?, Array.getElem?_setIfInBounds, h]
theorem size_put (a : Act) (d : Option Nat) (v : Value) : (a.put d v).tmps.size = a.tmps.size := by
  cases d <;> simp [Act.put]
theorem put_defers (a : Act) (d : Option Nat) (v : Value) : (a.put d v).defers = a.defers := by cases d <;> rfl
theorem put_lit (l : List Value) (ds : List Deferred) (t : Nat) (v : Value) : Act.put ⟨l.toArray, ds⟩ (some t) v = ⟨(l.set t v).toArray, ds⟩ := by simp [Act.put]
theorem hold_frame {p : Act → Prop} {a0 : Act} (h : ∀ a, Hid (a = a0) → p a) : p a0 := h a0 (hide rfl)

theorem Cells.set {w : World} {b so : Nat} {M : List Value} (h : Cells w b so M) (j : Nat) (hj : j < M.length) (v : Value) : Cells (w.setCell ⟨b, so + j, none⟩ v) b so (M.set j v) := by
  intro i u hi
  by_cases he : i = j
  · subst he
    rw [List.getElem?_set_self hj] at hi
    cases hi
    have := h i _ (List.getElem?_eq_getElem hj)
    exact World.cell?_setCell_same w _ _ this
  · rw [List.getElem?_set_ne (fun e => he e.symm)] at hi
    have := h i u hi
    rw [World.cell?_setCell_other]
    · exact this
    · intro e
      have := congrArg Addr.off e
      simp at this
      omega

end Go.Proofs.Ytbbhchmdggfncaa


/-
  The types of the translation that the walks of package pack meet, as closed facts; bytes in memory; the run of single operations.
-/
namespace Go.Proofs.Ytbbhchmdggfncaa
open Go.RowKit Go.Shelf
set_option linter.unusedSimpArgs false
set_option linter.unusedVariables false
set_option maxRecDepth 100000

theorem Try.info5 : (Try.prog.info? 5).map (fun i => (i.zero, i.size, i.bytes)) = some (some (.int .u8 0), 1, 1) := by kernel_rfl
theorem Try.info100 : (Try.prog.info? 100).map (fun i => (i.zero, i.size, i.bytes)) = some (some (.agg #[.slice none 0 0]), 1, 24) := by kernel_rfl
theorem Try.mixed : Try.prog.follows .mixedOrders = true := by kernel_rfl

/-- Bytes as values. -/
def BV (B : List Nat) : List Value := B.map fun n : Nat => .int .u8 (n : Int)
theorem BV_length (B : List Nat) : (BV B).length = B.length := by simp [BV]
theorem BV_one (B : List Nat) : ∀ v ∈ BV B, v.oneCell' = true := by
  intro v hv
  simp [BV] at hv
  obtain ⟨n, _, rfl⟩ := hv
  rfl
theorem BV_get (B : List Nat) (i : Nat) (h : i < B.length) : (BV B)[i]? = some (.int .u8 (B[i] : Int)) := by simp [BV, h]
theorem BV_append (A B : List Nat) : BV (A ++ B) = BV A ++ BV B := by simp [BV]
theorem BV_take (B : List Nat) (n : Nat) : BV (B.take n) = (BV B).take n := by simp [BV]
theorem BV_drop (B : List Nat) (n : Nat) : BV (B.drop n) = (BV B).drop n := by simp [BV]

/-- v is a slice that holds the bytes B. -/
def Src (w : World) (v : Value) (B : List Nat) : Prop :=
  ∃ bo cap, v = .slice bo B.length cap ∧ B.length ≤ cap ∧ (∀ x ∈ B, x < 256) ∧ (0 < B.length → ∃ sb so, bo = some ⟨sb, so, none⟩ ∧ Cells w sb so (BV B)) ∧ (bo = none → cap = 0)
theorem Src.kept {w w' : World} {v : Value} {B : List Nat} (h : Src w v B) (hk : Kept (fun _ => False) w w') : Src w' v B := by
  obtain ⟨bo, cap, rfl, h1, h2, h3, h4⟩ := h
  exact ⟨bo, cap, rfl, h1, h2, fun h => by obtain ⟨sb, so, e, hc⟩ := h3 h; exact ⟨sb, so, e, hk.cells hc (fun h => h)⟩, h4⟩
theorem Src.lt {w : World} {v : Value} {B : List Nat} (h : Src w v B) : ∀ x ∈ B, x < 256 := by
  obtain ⟨bo, cap, rfl, _, h2, _⟩ := h
  exact h2
theorem Src.nil (w : World) : Src w (.slice none 0 0) [] := ⟨none, 0, rfl, Nat.le_refl _, by simp, fun h => absurd h (by simp), fun _ => rfl⟩
/-- Bytes never lie in a block none of whose cells is a byte. -/
theorem Src.keptBut {w w' : World} {v : Value} {B : List Nat} {S : Nat → Prop} (h : Src w v B) (hk : Kept S w w') (hS : ∀ k, S k → ∀ i n, w.cell? ⟨k, i, none⟩ ≠ some (.int .u8 n)) : Src w' v B := by
  obtain ⟨bo, cap, rfl, h1, h2, h3, h4⟩ := h
  refine ⟨bo, cap, rfl, h1, h2, fun h => ?_, h4⟩
  obtain ⟨sb, so, e, hc⟩ := h3 h
  refine ⟨sb, so, e, hk.cells hc (fun hs => ?_)⟩
  exact hS sb hs _ _ (hc 0 _ (BV_get B 0 h))

def strN (B : List Nat) : ByteArray := strOfNums (B.map fun n : Nat => (n : Int))
theorem strN_data (B : List Nat) : (strN B).data = (B.map UInt8.ofNat).toArray := by simp [strN, strOfNums]
theorem strN_inj {A B : List Nat} (hA : ∀ x ∈ A, x < 256) (hB : ∀ x ∈ B, x < 256) (h : strN A = strN B) : A = B := by
  have h1 : A.map UInt8.ofNat = B.map UInt8.ofNat := by
    have := congrArg ByteArray.data h
    rw [strN_data, strN_data] at this
    simpa using this
  have hl : A.length = B.length := by have := congrArg List.length h1; simpa using this
  apply List.ext_getElem hl
  intro i ha hb
  have := congrArg (fun l => l[i]?) h1
  simp [ha, hb] at this
  have e := congrArg UInt8.toNat this
  simp at e
  have := hA _ (List.getElem_mem ha)
  have := hB _ (List.getElem_mem hb)
  omega
theorem strN_iff {A B : List Nat} (hA : ∀ x ∈ A, x < 256) (hB : ∀ x ∈ B, x < 256) : (strN A = strN B) ↔ A = B := ⟨strN_inj hA hB, fun h => by rw [h]⟩
section
variable {ρ : Operand → Value} {w : World} {dst : Option Tmp} {ty : TypeId} {pos : String} {aft : Array Edge} {gd : Option (Nat × Bool)} {x y z : Operand}
theorem r_move {v : Value} (hx : ρ x = v) : (execOp ρ ⟨dst, .move x, ty, pos, aft, gd⟩).run Try.prog w = .ok (.value v) w := by
  go_simp
theorem r_assign {v : Value} (hx : ρ x = v) : (execOp ρ ⟨dst, .assign x, ty, pos, aft, gd⟩).run Try.prog w = .ok (.value v) w := by
  go_simp
theorem r_pick {v : Value} (hx : ρ x = .bool true) (hy : ρ y = v) : (execOp ρ ⟨dst, .pick x y z, ty, pos, aft, gd⟩).run Try.prog w = .ok (.value v) w := by
  go_simp
theorem r_pickF {v : Value} (hx : ρ x = .bool false) (hz : ρ z = v) : (execOp ρ ⟨dst, .pick x y z, ty, pos, aft, gd⟩).run Try.prog w = .ok (.value v) w := by
  go_simp
theorem r_eql9 {p q : ByteArray} (hx : ρ x = .string p) (hy : ρ y = .string q) : (execOp ρ ⟨dst, .binOp .eql 9 x y 9, ty, pos, aft, gd⟩).run Try.prog w = .ok (.value (.bool (decide (p = q)))) w := by
  go_simp
  rw [ByteArray.toList_eq, ByteArray.toList_eq, Bool.eq_iff_iff]
  simp only [beq_iff_eq, decide_eq_true_eq]
  exact ⟨fun h => ByteArray.ext (Array.toList_inj.1 h), fun h => by rw [h]⟩
theorem r_neq9 {p q : ByteArray} (hx : ρ x = .string p) (hy : ρ y = .string q) : (execOp ρ ⟨dst, .binOp .neq 9 x y 9, ty, pos, aft, gd⟩).run Try.prog w = .ok (.value (.bool (decide (p ≠ q)))) w := by
  go_simp
  rw [ByteArray.toList_eq, ByteArray.toList_eq]
  by_cases h : p = q
  · simp [h]
  · have : ¬ p.data = q.data := fun e => h (ByteArray.ext e)
    simp [h, this]
theorem r_neq3 {p q : Int} (hx : ρ x = .int .i64 p) (hy : ρ y = .int .i64 q) : (execOp ρ ⟨dst, .binOp .neq 3 x y 3, ty, pos, aft, gd⟩).run Try.prog w = .ok (.value (.bool (decide (p ≠ q)))) w := by
  go_simp
  rw [Bool.eq_iff_iff]; simp
theorem r_call1 {f : FuncId} {v : Value} {t : TypeId} {fn : Func} {c : Code} (hf : Try.prog.funcs[f]? = some fn) (hn : (fn.name == "runtime.NumGoroutine") = false) (hb : fn.body = some c) (hfv : ρ (.func f) = .func (.func f) #[] #[]) (hx : ρ x = v) :
    (execOp ρ ⟨dst, .call { callee := .value (.func f), args := #[x], argTypes := #[t] }, ty, pos, aft, gd⟩).run Try.prog w = .ok (.enter f #[v]) w := by
  have h := enters_of hf hn hb #[v] w
  simp [execOp, resolve, hfv, hx, Deferred.ofValue, invoke, h]
theorem r_call2 {f : FuncId} {u v : Value} {t s : TypeId} {fn : Func} {c : Code} (hf : Try.prog.funcs[f]? = some fn) (hn : (fn.name == "runtime.NumGoroutine") = false) (hb : fn.body = some c) (hfv : ρ (.func f) = .func (.func f) #[] #[]) (hx : ρ x = u) (hy : ρ y = v) :
    (execOp ρ ⟨dst, .call { callee := .value (.func f), args := #[x, y], argTypes := #[t, s] }, ty, pos, aft, gd⟩).run Try.prog w = .ok (.enter f #[u, v]) w := by
  have h := enters_of hf hn hb #[u, v] w
  simp [execOp, resolve, hfv, hx, hy, Deferred.ofValue, invoke, h]
theorem run_strS {v : Value} {B : List Nat} (hs : Src w v B) : (convert 22 9 v).run Try.prog w = .ok (.string (strN B)) w := by
  obtain ⟨bo, cap, rfl, hcap, hB, hsrc, hnil⟩ := hs
  by_cases h0 : B.length = 0
  · obtain rfl : B = [] := List.eq_nil_of_length_eq_zero h0
    have h := run_convert_bytes_string (P := Try.prog) w 22 9 5 bo 0 cap Try.underlying22 Try.underlying5 Try.underlying9
    have h2 : (Conv.bytesToString (.slice bo 0 cap)).run Try.prog w = .ok (.string (strN [])) w := by
      cases bo <;> simp [Conv.bytesToString, strN, strOfNums, Builtin.firstCells, loadCells] <;> rfl
    simpa using h.trans h2
  · obtain ⟨sb, so, rfl, hc⟩ := hsrc (by omega)
    exact run_convert_bytes_arg (P := Try.prog) w 22 5 Try.underlying22 Try.underlying5 sb so B.length cap (B.map fun n : Nat => (n : Int)) (by simp) (fun i hi => by
      have h1 := hc i _ (BV_get B i hi)
      rw [h1]
      simp [List.getD, hi]) 9 Try.underlying9
theorem r_strS {v : Value} {B : List Nat} (hx : ρ x = v) (hs : Src w v B) :
    (execOp ρ ⟨dst, .convert 22 9 x, ty, pos, aft, gd⟩).run Try.prog w = .ok (.value (.string (strN B))) w := by
  simp [execOp, hx, run_strS hs]
theorem r_bs25 (M : List Nat) {n : Nat} {es : Array (Nat × Operand)} (hn : n = M.length) (hbig : M.length ≤ 16777216) (hes : es.toList.map (fun p => (p.1, ρ p.2)) = ((BV M).zipIdx 0).map fun p => (p.2, p.1)) :
    (execOp ρ ⟨dst, .buildSlice 22 n es, ty, pos, aft, gd⟩).run Try.prog w = .ok (.value (.slice (some ⟨w.heap.size, 0, none⟩) n n)) (w.alloc (.cells (BV M).toArray 5)) := by
  obtain ⟨i5, hi5, hz5, hs5, hb5⟩ := info_parts Try.info5
  exact run_bs1 Try.underlying22 hi5 hz5 hs5 (BV M) (by rw [BV_length, hn]) (by rw [BV_length]; exact hbig) (fun v hv => by
    simp [BV] at hv
    obtain ⟨k, _, rfl⟩ := hv
    rfl) hes
theorem r_append25 {u v v' : Value} {w' : World} (hx : ρ x = u) (hy : ρ y = v) (h : (Builtin.append_ #[22, 22] ty #[u, v]).run Try.prog w = .ok v' w') :
    (execOp ρ ⟨dst, .call { callee := .builtin .append, args := #[x, y], argTypes := #[22, 22] }, ty, pos, aft, gd⟩).run Try.prog w = .ok (.value v') w' := by
  simp [execOp, resolve, invoke, builtin, hx, hy, h]
theorem r_appendZ {u v v' : Value} {w' : World} (hx : ρ x = u) (hy : ρ y = v) (h : (Builtin.append_ #[22, 3] ty #[u, v]).run Try.prog w = .ok v' w') :
    (execOp ρ ⟨dst, .call { callee := .builtin .append, args := #[x, y], argTypes := #[22, 3] }, ty, pos, aft, gd⟩).run Try.prog w = .ok (.value v') w' := by
  simp [execOp, resolve, invoke, builtin, hx, hy, h]
theorem r_shr64 {tb : TypeId} {p j : Nat} {k : IntKind} (hp : p < 9223372036854775808) (hx : ρ x = .int .i64 p) (hy : ρ y = .int k j) :
    (execOp ρ ⟨dst, .binOp .shr 3 x y tb, ty, pos, aft, gd⟩).run Try.prog w = .ok (.value (.int .i64 ((p / 2 ^ j : Nat) : Int))) w := by
  have hn : ¬ ((j : Int) < 0) := by omega
  have e : p / 2 ^ min j 64 = p / 2 ^ j := by
    by_cases h : j ≤ 64
    · rw [Nat.min_eq_left h]
    · rw [Nat.min_eq_right (by omega), Nat.div_eq_of_lt (by omega), Nat.div_eq_of_lt]
      exact Nat.lt_of_lt_of_le (by omega : p < 2 ^ 64) (Nat.pow_le_pow_right (by decide) (by omega))
  have hm : min ((j : Int).toNat) IntKind.i64.bits = min j 64 := by simp [IntKind.bits]
  have e2 : (p : Int).fdiv (2 ^ min j IntKind.i64.bits) = (p : Int) / 2 ^ j := by
    rw [Int.fdiv_eq_ediv_of_nonneg _ (Int.pow_nonneg (by decide)), show IntKind.i64.bits = 64 from rfl]
    have := congrArg (fun n : Nat => (n : Int)) e
    push_cast at this
    exact this
  simp [execOp, eqGuard, binOp, Op.shift, hx, hy, hn]
  exact e2
theorem r_shl64 {tb : TypeId} {p : Nat} (hp : p < 72057594037927936) (hx : ρ x = .int .u64 p) (hy : ρ y = .int .u64 8) :
    (execOp ρ ⟨dst, .binOp .shl 139 x y tb, ty, pos, aft, gd⟩).run Try.prog w = .ok (.value (.int .u64 ((p * 256 : Nat) : Int))) w := by
  have hw : IntKind.u64.wrap ((p : Int) * 256) = ((p * 256 : Nat) : Int) := by rw [IntKind.wrap_u64]; omega
  have hm : min ((8 : Int).toNat) IntKind.u64.bits = 8 := by decide
  simp [execOp, eqGuard, binOp, Op.shift, hx, hy]
  rw [show min 8 IntKind.u64.bits = 8 from rfl]
  simpa using hw
theorem r_or64 {tb : TypeId} {p q : Nat} (hp : p < 72057594037927936) (hq : q < 256) (hx : ρ x = .int .u64 ((p * 256 : Nat) : Int)) (hy : ρ y = .int .u64 q) :
    (execOp ρ ⟨dst, .binOp .or 139 x y tb, ty, pos, aft, gd⟩).run Try.prog w = .ok (.value (.int .u64 ((p * 256 + q : Nat) : Int))) w := by
  have h := u64_or_nat (p * 256) q (by omega) (by omega)
  have e : p * 256 ||| q = p * 256 + q := by
    have := Nat.two_pow_add_eq_or_of_lt (i := 8) (b := q) (by omega) p
    rw [Nat.mul_comm p 256]
    exact this.symm
  rw [e] at h
  unfold bits at h
  simp [execOp, eqGuard, binOp, Op.intBits, hx, hy]
  simpa using h
end

end Go.Proofs.Ytbbhchmdggfncaa


/-
  Slices of one's own: append bytes, and noughts; where the slice lies afterwards.
-/
namespace Go.Proofs.Ytbbhchmdggfncaa
open Go.RowKit Go.Shelf
set_option linter.unusedSimpArgs false
set_option linter.unusedVariables false
set_option maxRecDepth 100000

/-- A slice of one's own that holds the bytes A. -/
def Own (w : World) (base : Nat) (v : Value) (A : List Nat) : Prop := w.ownsRow base 5 1 v A.length (BV A) ∧ ∀ x ∈ A, x < 256
theorem Blk.src {w : World} {g cap : Nat} {L : List Value} {B : List Nat} (h : Blk w g L 5) (hL : L.take B.length = BV B) (hB : ∀ x ∈ B, x < 256) (hc : B.length ≤ cap) : Src w (.slice (some ⟨g, 0, none⟩) B.length cap) B := by
  refine ⟨_, _, rfl, hc, hB, fun _ => ⟨g, 0, rfl, ?_⟩, fun h => by cases h⟩
  have := h.cells 0 B.length
  rw [List.drop_zero, hL] at this
  exact this
theorem Own.src {w : World} {base : Nat} {v : Value} {A : List Nat} (h : Own w base v A) : Src w v A := by
  obtain ⟨h, hA⟩ := h
  rcases h.2 with ⟨rfl, h0⟩ | ⟨g, cap, cur, rfl, hb, hg, hnc, hcm, hcs, htake⟩
  · obtain rfl : A = [] := List.eq_nil_of_length_eq_zero h0
    exact ⟨none, 0, rfl, Nat.le_refl _, hA, fun h => by simp at h, fun _ => rfl⟩
  · refine Blk.src (L := cur.toList) (by unfold Blk; simpa using hg) ?_ hA hnc
    simpa using htake
theorem Own.nil (w : World) (base : Nat) : Own w base (.slice none 0 0) [] := ⟨World.ownsRow_nil _ _ _ _, by simp⟩
theorem Own.kept {w w' : World} {base : Nat} {v : Value} {A : List Nat} {S : Nat → Prop} (h : Own w base v A) (hk : Kept S w w') (hn : ∀ k, v.ownBlock = some k → ¬ S k) : Own w' base v A := by
  obtain ⟨⟨h1, h2⟩, hA⟩ := h
  refine ⟨⟨h1, ?_⟩, hA⟩
  rcases h2 with h2 | ⟨g, cap, cur, rfl, hb, hg, hr⟩
  · exact .inl h2
  · exact .inr ⟨g, cap, cur, rfl, hb, (hk.block g (Array.getElem?_eq_some_iff.1 hg).1 (hn g rfl)).trans hg, hr⟩
/-- The block of such a slice is of bytes. -/
theorem Own.blk_ne {w : World} {base : Nat} {v : Value} {A : List Nat} {b : Nat} {L : List Value} {t : TypeId} (h : Own w base v A) (hb : Blk w b L t) (ht : t ≠ 5) : v.ownBlock ≠ some b := by
  intro e
  rcases h.1.2 with ⟨rfl, _⟩ | ⟨g, cap, cur, rfl, _, hg, _⟩
  · simp [Value.ownBlock] at e
  · simp [Value.ownBlock] at e
    subst e
    unfold Blk at hb
    rw [hg] at hb
    simp at hb
    exact ht hb.2.symm
theorem Own.lt {w : World} {base : Nat} {v : Value} {A : List Nat} (h : Own w base v A) : ∀ k, v.ownBlock = some k → k < w.heap.size := fun k hk => (h.1.lt k hk).2
theorem append_src {w : World} {base : Nat} {v u : Value} {A B : List Nat} (ho : Own w base v A) (hs : Src w u B) (hl : A.length + B.length ≤ 100000000) (hb : base ≤ w.heap.size) (ty : TypeId) :
    ∃ v' w', (Builtin.append_ #[22, 22] ty #[v, u]).run Try.prog w = .ok v' w' ∧ Own w' base v' (A ++ B) ∧ Kept (fun k => v.ownBlock = some k) w w' ∧ (v'.ownBlock = v.ownBlock ∨ v'.ownBlock = some w.heap.size) := by
  obtain ⟨i5, hi5, hz5, hs5, hb5⟩ := info_parts Try.info5
  obtain ⟨ho, hA⟩ := ho
  have hB := hs.lt
  have hAB : ∀ x ∈ A ++ B, x < 256 := fun x hx => by
    rcases List.mem_append.1 hx with h | h
    · exact hA x h
    · exact hB x h
  obtain ⟨bo, cap, rfl, hcap, _, hsrc, hnil⟩ := hs
  cases bo with
  | none =>
    obtain rfl : cap = 0 := hnil rfl
    obtain rfl : B = [] := List.eq_nil_of_length_eq_zero (by omega)
    have h := run_append_owned_none (P := Try.prog) (w := w) base 22 ty 5 i5 1 Try.underlying22 hi5 v A.length (BV A) ho
    refine ⟨_, _, h, ⟨by simpa using ho, hAB⟩, Kept.refl _ _, .inl rfl⟩
  | some a =>
    have hn : ∀ j u, (BV B)[j]? = some u → w.cell? (a.add j) = some u := by
      intro j u hj
      by_cases h0 : 0 < B.length
      · obtain ⟨sb, so, he, hc⟩ := hsrc h0
        cases he
        rw [addr_add]
        exact hc j u hj
      · obtain rfl : B = [] := List.eq_nil_of_length_eq_zero (by omega)
        simp [BV] at hj
    obtain ⟨v', w', hr, h2, h3, _, h5⟩ := run_append_own_at (P := Try.prog) w base 22 ty 5 i5 _ 1 1 Try.underlying22 hi5 hz5 hs5 hb5 rfl (by decide) v A.length (BV A) ho a B.length cap (BV B) (by simp [BV]) hn (BV_one B) (by unfold maxLen; omega) (by omega) hb
    refine ⟨v', w', hr, ⟨by simpa [BV_append] using h2, hAB⟩, ?_, h5⟩
    have hk := Kept.of_grown h3
    exact hk

theorem zeroC (n : Nat) : Builtin.zeroCells (Value.cells (.int .u8 0)) n = (BV (List.replicate n 0)).toArray := by
  apply Array.ext
  · simp [Builtin.zeroCells, BV, Value.cells]
  · intro i h1 h2
    simp [Builtin.zeroCells, BV, Value.cells, Nat.mod_one]
/-- append(v, make([]byte, m)...). -/
theorem append_zero {w : World} {base : Nat} {v : Value} {A : List Nat} (ho : Own w base v A) (m : Nat) (hl : A.length + m ≤ 100000000) (hb : base ≤ w.heap.size) (ty : TypeId) :
    ∃ v' w', (Builtin.append_ #[22, 3] ty #[v, .int .i64 m]).run Try.prog w = .ok v' w' ∧ Own w' base v' (A ++ List.replicate m 0) ∧ Kept (fun k => v.ownBlock = some k) w w' ∧ (v'.ownBlock = v.ownBlock ∨ v'.ownBlock = some w.heap.size) := by
  obtain ⟨i5, hi5, hz5, hs5, hb5⟩ := info_parts Try.info5
  obtain ⟨ho, hA⟩ := ho
  have hAB : ∀ x ∈ A ++ List.replicate m 0, x < 256 := fun x hx => by
    rcases List.mem_append.1 hx with h | h
    · exact hA x h
    · have := List.eq_of_mem_replicate h
      omega
  have hw : IntKind.i64.wrap (m : Int) = (m : Int) := by rw [IntKind.wrap_i64]; omega
  have hw0 : IntKind.i64.wrap 0 = 0 := by decide
  have hn0 : ¬ ((m : Int) < 0) := by omega
  have hbig : ¬ ((281474976710656 : Int) < (m : Int)) := by omega
  have hz := zeroC m
  have hlen : (BV A ++ BV (List.replicate m 0)).length = (A.length + m) * 1 := by simp [BV]
  have hown2 : (A ++ List.replicate m 0).length = A.length + m := by simp
  have hN1 : ∀ u ∈ BV (List.replicate m 0), u.oneCell' = true := BV_one _
  have grown : ∀ (old : Nat), old < A.length + m → ∀ (row : Option Nat),
      Own (w.drew.alloc (.cells ((BV A).toArray ++ (BV (List.replicate m 0)).toArray ++ Builtin.zeroCells (Value.cells (.int .u8 0)) (grownCap w (A.length + m) old 5 - (A.length + m))) 5)) base
        (.slice (some ⟨w.heap.size, 0, none⟩) (A.length + m) (grownCap w (A.length + m) old 5)) (A ++ List.replicate m 0) ∧
      Kept (fun k => row = some k) w (w.drew.alloc (.cells ((BV A).toArray ++ (BV (List.replicate m 0)).toArray ++ Builtin.zeroCells (Value.cells (.int .u8 0)) (grownCap w (A.length + m) old 5 - (A.length + m))) 5)) := by
    intro old hold row
    have hge := grownCap_ge w (A.length + m) old 5
    have hcm : grownCap w (A.length + m) old 5 ≤ maxLen := grownCap_le_maxLen w (A.length + m) old 5 (by unfold maxLen; omega)
    refine ⟨⟨⟨by rw [hown2, BV_append]; exact hlen, .inr ⟨w.heap.size, _, _, by rw [hown2], hb, heap_alloc_new w.drew _, by rw [hown2]; exact hge, hcm, ?_, ?_⟩⟩, hAB⟩, ⟨rfl, rfl, rfl, by simp, fun k hk _ => Below.heap_alloc w.drew _ k hk⟩⟩
    · simp only [Array.size_append, List.size_toArray, size_zeroCells, BV_length, List.length_replicate]
      have : (Value.cells (.int .u8 0)).size = 1 := rfl
      rw [this]
      omega
    · rw [hown2, BV_append, ← hlen]
      simp only [Array.toList_append, List.append_assoc]
      rw [← List.append_assoc]
      exact List.take_left
  rcases ho.2 with ⟨rfl, h0⟩ | ⟨g, cap, cur, rfl, hbg, hg, hnc, hcm, hcs, htake⟩
  · obtain rfl : A = [] := List.eq_nil_of_length_eq_zero h0
    by_cases hm : m = 0
    · subst hm
      refine ⟨.slice none 0 0, w, ?_, Own.nil w base, Kept.refl _ _, .inl rfl⟩
      simp [Builtin.append_, run_underlying Try.underlying22, run_underlying Try.underlying3, sizeOf, typeInfo, hi5, hs5, hb5, asInt, asIntOf, hw, hw0]
    · have hgr := grown 0 (by simp; omega) (Value.ownBlock (.slice none 0 0))
      simp only [List.length_nil, Nat.zero_add, List.nil_append, BV, List.map_nil, Array.empty_append] at hgr ⊢
      have h48' : ¬ (281474976710656 < Builtin.nextslicecap m 0) := by rw [nextslicecap_zero (by omega)]; omega
      have h63' : ¬ (9223372036854775807 < (m : Int)) := by omega
      have hmm : ¬ (m * 1 = 0) := by omega
      refine ⟨_, _, ?_, hgr.1, hgr.2, .inr rfl⟩
      simp [Builtin.append_, run_underlying Try.underlying22, run_underlying Try.underlying3, sizeOf, typeInfo, zeroValue, hi5, hs5, hb5, hz5, asInt, asIntOf, hw, hn0, hbig, hm, h48', h63', Question.forced, run_firstCells_none, newRow, grownCap, hz, BV]
  · by_cases hroom : A.length + m ≤ cap
    · have hfit : A.length * 1 + (BV (List.replicate m 0)).length ≤ cur.size := by rw [BV_length, hcs]; simp; omega
      have hst := run_storeCells_at (P := Try.prog) g A.length 5 (BV (List.replicate m 0)) 0 cur w hg (by rw [hcs]; simp [BV]; omega) hN1
      by_cases hm : m = 0
      · subst hm
        refine ⟨_, w, ?_, ⟨by simpa using ho, hAB⟩, Kept.refl _ _, .inl rfl⟩
        simp [Builtin.append_, run_underlying Try.underlying22, run_underlying Try.underlying3, sizeOf, typeInfo, hi5, hs5, hb5, asInt, asIntOf, hw, hw0, hnc, storeCells]
      · refine ⟨.slice (some ⟨g, 0, none⟩) (A.length + m) cap, w.setRow g (cur.toList.take (A.length + 0) ++ BV (List.replicate m 0) ++ cur.toList.drop (A.length + 0 + (BV (List.replicate m 0)).length)).toArray, ?_, ⟨⟨by rw [hown2, BV_append]; exact hlen, .inr ⟨g, cap, _, by rw [hown2], hbg, setRow_heap w g cur _ 5 _ hg, by rw [hown2]; exact hroom, hcm, ?_, ?_⟩⟩, hAB⟩, Kept.setRow w g _ rfl, .inl rfl⟩
        · simp [Builtin.append_, run_underlying Try.underlying22, run_underlying Try.underlying3, sizeOf, typeInfo, zeroValue, hi5, hs5, hb5, hz5, asInt, asIntOf, hw, hn0, hbig, hm, hroom, hz, addr_add]
          simp at hst
          rw [hst]
          rfl
        · simp [BV]
          omega
        · rw [hown2, BV_append, Nat.add_zero, show cur.toList.take A.length = BV A by simpa using htake, ← hlen]
          exact List.take_left
    · have holds : ∀ j u, (BV A)[j]? = some u → w.cell? ((⟨g, 0, none⟩ : Addr).add j) = some u := ho.cells (g := g) rfl
      have hfo := run_firstCells_some (P := Try.prog) w.drew 1 A.length ⟨g, 0, none⟩ A.length cap (BV A) (by simp [BV]) (by simpa using holds)
      have hgr := grown cap (by omega) (Value.ownBlock (.slice (some ⟨g, 0, none⟩) A.length cap))
      have h48' : ¬ (281474976710656 < Builtin.nextslicecap (A.length + m) cap) := by have := growslice_fits (need := A.length + m) (old := cap) (bytes := 1) (by omega) (by omega); omega
      have h63' : ¬ (9223372036854775807 < (A.length : Int) + (m : Int)) := by omega
      have hm : ¬ m = 0 := by omega
      refine ⟨_, _, ?_, hgr.1, hgr.2, .inr rfl⟩
      simp [Builtin.append_, run_underlying Try.underlying22, run_underlying Try.underlying3, sizeOf, typeInfo, zeroValue, hi5, hs5, hb5, hz5, asInt, asIntOf, hw, hn0, hbig, hm, hroom, h48', h63', Question.forced, hfo, newRow, grownCap, hz]
      congr 2
      apply Array.ext'
      simp [List.append_assoc]

end Go.Proofs.Ytbbhchmdggfncaa
