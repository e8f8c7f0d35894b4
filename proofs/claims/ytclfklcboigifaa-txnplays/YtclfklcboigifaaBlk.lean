/-
  Laws of our own: blocks of cells known whole ('Blk'), what a piece of work keeps ('Kept'), and the run of operations on values of many cells. No condition beyond each law's own premises. Nothing of a program's dump is used here.
-/
import Derived.WalkKit
import Derived.WalkSpells
import Derived.WalkLawsBesides
import Derived.Laws.CopyOwn
import Derived.StillTailTactics
import Derived.OrdersHeld
namespace Go.Proofs.Ytclfklcboigifaa
open Go.RowKit
set_option linter.unusedSimpArgs false
set_option linter.unusedVariables false
set_option maxRecDepth 100000

theorem hide {p : Prop} (h : p) : Hid p := h

/-- The block b holds just the cells L, none frozen; its elements are of type t. -/
def Blk (w : World) (b : Nat) (L : List Value) (t : TypeId) : Prop := w.heap[b]? = some (.cells L.toArray t (0, 0))

theorem Blk.lt {w : World} {b : Nat} {L : List Value} {t : TypeId} (h : Blk w b L t) : b < w.heap.size := (Array.getElem?_eq_some_iff.1 h).1

theorem Blk.cell {w : World} {b : Nat} {L : List Value} {t : TypeId} (h : Blk w b L t) (i : Nat) : w.cell? ⟨b, i, none⟩ = L[i]? := by
  unfold Blk at h; simp [World.cell?, h]

theorem Blk.frozen {w : World} {b : Nat} {L : List Value} {t : TypeId} (h : Blk w b L t) (i : Nat) : w.frozen? ⟨b, i, none⟩ = false := by
  unfold Blk at h; simp [World.frozen?, h]

theorem Blk.ne {w : World} {b c : Nat} {L M : List Value} {t u : TypeId} (h : Blk w b L t) (k : Blk w c M u) (hne : t ≠ u) : b ≠ c := by
  intro e; subst e; unfold Blk at h k; rw [h] at k; simp at k; exact hne k.2

theorem Blk.same {w : World} {b : Nat} {L M : List Value} {t u : TypeId} (h : Blk w b L t) (k : Blk w b M u) : L = M ∧ t = u := by
  unfold Blk at h k; rw [h] at k; simp at k; exact k

/-- All old blocks but those of S are as they were. -/
structure Kept (S : Nat → Prop) (w w' : World) : Prop where
  os : w'.os = w.os
  tape : w'.tape = w.tape
  output : w'.output = w.output
  size : w.heap.size ≤ w'.heap.size
  block : ∀ k, k < w.heap.size → ¬ S k → w'.heap[k]? = w.heap[k]?

theorem Kept.refl (S : Nat → Prop) (w : World) : Kept S w w := ⟨rfl, rfl, rfl, Nat.le_refl _, fun _ _ _ => rfl⟩

theorem Kept.trans {S T : Nat → Prop} {a b c : World} (h : Kept S a b) (k : Kept T b c) (hs : ∀ i, i < a.heap.size → T i → S i) : Kept S a c :=
  ⟨k.os.trans h.os, k.tape.trans h.tape, k.output.trans h.output, Nat.le_trans h.size k.size,
   fun i hi hn => (k.block i (Nat.lt_of_lt_of_le hi h.size) (fun t => hn (hs i hi t))).trans (h.block i hi hn)⟩

theorem Kept.mono {S T : Nat → Prop} {a b : World} (h : Kept S a b) (hs : ∀ i, i < a.heap.size → S i → T i) : Kept T a b :=
  ⟨h.os, h.tape, h.output, h.size, fun i hi hn => h.block i hi (fun t => hn (hs i hi t))⟩

theorem Kept.blk {S : Nat → Prop} {w w' : World} {b : Nat} {L : List Value} {t : TypeId} (h : Kept S w w') (hb : Blk w b L t) (hn : ¬ S b) : Blk w' b L t :=
  (h.block b hb.lt hn).trans hb

theorem Kept.drew {S : Nat → Prop} {a w : World} (h : Kept S a w) : Kept S a w.drew := ⟨h.os, h.tape, h.output, h.size, h.block⟩

theorem Kept.below {w w' : World} (h : Kept (fun _ => False) w w') : Below w.heap.size w w' :=
  ⟨h.os, h.tape, h.output, h.size, fun k hk => h.block k hk (fun h => h)⟩

theorem Kept.of_below {B : Nat} {w w' : World} (h : Below B w w') : Kept (fun k => B ≤ k) w w' :=
  ⟨h.os, h.tape, h.output, h.size, fun k _ hn => h.block k (by omega)⟩

theorem Kept.of_grown {w w' : World} {row : Option Nat} (h : w.grownBy w' row) : Kept (fun k => row = some k) w w' :=
  ⟨h.os, h.tape, h.output, h.size, fun k hk hn => h.block k hk (fun e => hn e.symm)⟩

theorem Kept.alloc (S : Nat → Prop) (w : World) (o : Obj) : Kept S w (w.alloc o) :=
  ⟨rfl, rfl, rfl, by simp, fun k hk _ => Below.heap_alloc w o k hk⟩

theorem Kept.setRow {S : Nat → Prop} (w : World) (g : Nat) (cs : Array Value) (hg : S g) : Kept S w (w.setRow g cs) :=
  ⟨rfl, rfl, rfl, by simp [World.setRow], fun k _ hn => setRow_other w g k cs (fun e => hn (e ▸ hg))⟩

theorem Kept.setCell {S : Nat → Prop} (w : World) (a : Addr) (v : Value) (hg : S a.block) : Kept S w (w.setCell a v) :=
  ⟨rfl, rfl, rfl, by simp [World.setCell], fun k _ hn => Below.heap_setCell w a v k (fun e => hn (e ▸ hg))⟩

theorem Blk.drew {w : World} {b : Nat} {L : List Value} {t : TypeId} (h : Blk w b L t) : Blk w.drew b L t := h

theorem Blk.new (w : World) (L : List Value) (t : TypeId) : Blk (w.alloc (.cells L.toArray t)) w.heap.size L t := heap_alloc_new w _

theorem Blk.newA (w : World) (c : Array Value) (t : TypeId) : Blk (w.alloc (.cells c t)) w.heap.size c.toList t := by
  have := heap_alloc_new w (.cells c t); unfold Blk; simpa using this

theorem Blk.setRow {w : World} {b : Nat} {L : List Value} {t : TypeId} (h : Blk w b L t) (M : List Value) : Blk (w.setRow b M.toArray) b M t :=
  setRow_heap w b _ _ t _ h

theorem Blk.setCell {w : World} {b : Nat} {L : List Value} {t : TypeId} (h : Blk w b L t) (i : Nat) (v : Value) : Blk (w.setCell ⟨b, i, none⟩ v) b (L.set i v) t := by
  have hlt := h.lt
  have hv : w.heap[b] = .cells L.toArray t (0, 0) := (Array.getElem?_eq_some_iff.1 h).2
  unfold Blk World.setCell
  rw [Array.getElem?_eq_getElem (by simpa using hlt), Array.getElem_modify]
  simp [hv]

/-- A step whose run is known. -/
theorem wpList_run {P : Program} {ops : Array Oper} {Q : Exit → Act → World → Prop} {a : Act} {w w' : World} {rest : List Oper} {o : Oper} {v : Value} (hg : o.guard = none)
    (hr : (execOp a.eval o).run P w = .ok (.value v) w') (h : wpList P ops Q rest (a.put o.dst v) w') : wpList P ops Q (o :: rest) a w :=
  wpList_plain hg fun K hK => by unfold Oper.wp; rw [hr]; exact hK _ _ h

theorem wpList_run_skip {P : Program} {ops : Array Oper} {Q : Exit → Act → World → Prop} {a : Act} {w w' : World} {rest : List Oper} {o : Oper} (hg : o.guard = none)
    (hr : (execOp a.eval o).run P w = .ok .skip w') (h : wpList P ops Q rest (a.put o.dst undef) w') : wpList P ops Q (o :: rest) a w :=
  wpList_plain hg fun K hK => by unfold Oper.wp; rw [hr]; exact hK _ _ h

theorem wpStill_run {P : Program} {ops : Array Oper} {Q : Act → Prop} {a : Act} {w : World} {rest : List Oper} {o : Oper} {v : Value} (hg : o.guard = none)
    (hr : (execOp a.eval o).run P w = .ok (.value v) w) (h : wpStill P ops w Q rest (a.put o.dst v)) : wpStill P ops w Q (o :: rest) a :=
  wpStill_step fun K hK => by
    simp only [Region.wanted, hg, if_true]
    unfold Oper.still; rw [hr]; exact ⟨rfl, hK _ h⟩

theorem addr_add (b off j : Nat) : (⟨b, off, none⟩ : Addr).add j = ⟨b, off + j, none⟩ := by
  unfold Addr.add; split <;> simp_all

/-- What an aggregate's type tells: its size. -/
def aggSize (P : Program) (t : TypeId) (n : Nat) : Prop := (∃ i, P.info? t = some i ∧ i.size = n) ∧ (∃ d, P.underlying t = some d ∧ ((∃ k e, d = .array k e) ∨ (∃ fs, d = .struct fs)))

theorem run_isAgg {P : Program} {t : TypeId} {n : Nat} (h : aggSize P t n) (w : World) : (isAgg t).run P w = .ok true w := by
  obtain ⟨_, d, hd, hk⟩ := h
  rcases hk with ⟨k, e, rfl⟩ | ⟨fs, rfl⟩ <;> simp [isAgg, run_underlying hd]

theorem run_sizeOf {P : Program} {t : TypeId} {n : Nat} (h : aggSize P t n) (w : World) : (sizeOf t).run P w = .ok n w := by
  obtain ⟨⟨i, hi, rfl⟩, _⟩ := h
  simp [sizeOf, typeInfo, hi]

theorem run_load_agg {P : Program} {ρ : Operand → Value} {w : World} {dst : Option Tmp} {t ty : TypeId} {x : Operand} {pos : String} {aft : Array Edge} {gd : Option (Nat × Bool)} {b off n : Nat} {L : List Value} {e : TypeId}
    (ht : aggSize P t n) (hx : ρ x = .pointer (some ⟨b, off, none⟩)) (hb : Blk w b L e) (hl : off + n ≤ L.length) :
    (execOp ρ ⟨dst, .load t x, ty, pos, aft, gd⟩).run P w = .ok (.value (.agg ((L.drop off).take n).toArray)) w := by
  have hlen : ((L.drop off).take n).length = n := by simp; omega
  have hc := run_loadCells_list (P := P) w ⟨b, off, none⟩ ((L.drop off).take n) (fun j v hj => by
    rw [addr_add, hb.cell]
    have hjn : j < n := by
      rcases Nat.lt_or_ge j n with h | h
      · exact h
      · rw [List.getElem?_eq_none (by rw [hlen]; exact h)] at hj; cases hj
    rw [List.getElem?_take] at hj
    simp [hjn] at hj
    exact hj)
  rw [hlen] at hc
  simp [execOp, Instr.loadAt, hx, Instr.sureAddr, loadVar, run_isAgg ht, run_sizeOf ht, hc]

theorem run_store_agg {P : Program} {ρ : Operand → Value} {w : World} {dst : Option Tmp} {t ty : TypeId} {x y : Operand} {pos : String} {aft : Array Edge} {gd : Option (Nat × Bool)} {b off n : Nat} {L M : List Value} {e : TypeId}
    (ht : aggSize P t n) (hx : ρ x = .pointer (some ⟨b, off, none⟩)) (hy : ρ y = .agg M.toArray) (hM : M.length = n) (h1 : ∀ v ∈ M, v.oneCell' = true) (hb : Blk w b L e) (hl : off + n ≤ L.length) :
    (execOp ρ ⟨dst, .store t x y, ty, pos, aft, gd⟩).run P w = .ok .skip (w.setRow b (L.take off ++ M ++ L.drop (off + n)).toArray) := by
  have hs := run_storeCells_at (P := P) b off e M 0 L.toArray w hb (by simp; omega) h1
  simp [execOp, Instr.storeAt, hx, hy, Instr.sureAddr, storeVar, Value.cells, run_sizeOf ht, hM]
  simp [hM] at hs
  rw [hs]
  simp

theorem run_alloc_agg {P : Program} {ρ : Operand → Value} {w : World} {dst : Option Tmp} {t ty : TypeId} {pos : String} {aft : Array Edge} {gd : Option (Nat × Bool)} {i : TypeInfo} {z : Value}
    (hi : P.info? t = some i) (hz : i.zero = some z) :
    (execOp ρ ⟨dst, .alloc t, ty, pos, aft, gd⟩).run P w = .ok (.value (.pointer (some ⟨w.heap.size, 0, none⟩))) (w.alloc (.cells z.cells t)) := by
  simp [execOp, Instr.alloc, zeroValue, typeInfo, hi, hz, newVar, newRow]

theorem run_box_agg {P : Program} {ρ : Operand → Value} {w : World} {dst : Option Tmp} {t ty : TypeId} {x : Operand} {pos : String} {aft : Array Edge} {gd : Option (Nat × Bool)} :
    (execOp ρ ⟨dst, .box t x, ty, pos, aft, gd⟩).run P w = .ok (.value (.pointer (some ⟨w.heap.size, 0, none⟩))) (w.alloc (.cells (ρ x).cells t)) := by
  simp [execOp, Instr.box, newVar, newRow]

theorem madeCells_rep (z : Value) (m : Nat) (hm : 0 < m) (n : Nat) : madeCells (List.replicate m z).toArray n = (List.replicate n z).toArray := by
  apply Array.ext
  · simp [madeCells]
  · intro i h1 h2
    have : i % m < m := Nat.mod_lt _ hm
    simp [madeCells, this]

theorem run_make_op {P : Program} {ρ : Operand → Value} {w : World} {dst : Option Tmp} {t ty e : TypeId} {l c : Operand} {pos : String} {aft : Array Edge} {gd : Option (Nat × Bool)} {i : TypeInfo} {z : Value}
    (m : Nat) (hm : 0 < m) (ht : P.underlying t = some (.slice e)) (hi : P.info? e = some i) {zc : Value} (hz : i.zero = some zc) (hzc : zc.cells = (List.replicate m z).toArray) (hsz : i.size = m) (n : Nat)
    {kl kc : IntKind} (hl : ρ l = .int kl n) (hc : ρ c = .int kc n) (hb : i.bytes * n ≤ 281474976710656) (h63 : n ≤ maxLen) :
    (execOp ρ ⟨dst, .makeSlice t l c, ty, pos, aft, gd⟩).run P w = .ok (.value (.slice (some ⟨w.heap.size, 0, none⟩) n n)) (w.alloc (.cells (List.replicate (n * m) z).toArray e)) := by
  have h := run_make (P := P) w t e i zc ht hi hz kl kc (n : Int) (n : Int) (by omega) (by omega) (by have := Int.ofNat_le.2 hb; rw [Int.natCast_mul] at this; exact this) (by unfold maxLen at h63; omega)
  simp only [Int.toNat_natCast, hzc, hsz, madeCells_rep z m hm] at h
  simp [execOp, hl, hc, h]

/-- M laid over L from off on. -/
def put (L : List Value) (off : Nat) (M : List Value) : List Value := L.take off ++ M ++ L.drop (off + M.length)

theorem length_put (L : List Value) (off : Nat) (M : List Value) (h : off + M.length ≤ L.length) : (put L off M).length = L.length := by
  simp [put]; omega

theorem put_whole (Z M : List Value) (h : Z.length = M.length) : put Z 0 M = M := by
  unfold put; rw [List.drop_eq_nil_of_le (by omega)]; simp

section
variable {P : Program} {ops : Array Oper} {Q : Exit → Act → World → Prop} {a : Act} {w : World} {rest : List Oper} {dst : Option Tmp} {ty : TypeId} {pos : String} {aft : Array Edge}

/-- For walking by hand: the walk stands still at this goal. -/
theorem stop_store (t : TypeId) {x y : Operand} (h : Hid (wpList P ops Q (⟨dst, .store t x y, ty, pos, aft, none⟩ :: rest) a w)) : wpList P ops Q (⟨dst, .store t x y, ty, pos, aft, none⟩ :: rest) a w := h.out
theorem stop_load (t : TypeId) {x : Operand} (h : Hid (wpList P ops Q (⟨dst, .load t x, ty, pos, aft, none⟩ :: rest) a w)) : wpList P ops Q (⟨dst, .load t x, ty, pos, aft, none⟩ :: rest) a w := h.out

theorem aw_alloc {t : TypeId} {i : TypeInfo} {z : Value} (hi : P.info? t = some i) (hz : i.zero = some z)
    (h : ∀ w', Blk w' w.heap.size z.cells.toList t → Kept (fun _ => False) w w' → w'.heap.size = w.heap.size + 1 → wpList P ops Q rest (a.put dst (.pointer (some ⟨w.heap.size, 0, none⟩))) w') :
    wpList P ops Q (⟨dst, .alloc t, ty, pos, aft, none⟩ :: rest) a w :=
  wpList_run rfl (run_alloc_agg hi hz) (h _ (Blk.newA w _ t) (Kept.alloc _ w _) (by simp))

theorem aw_box {t : TypeId} {x : Operand} {v : Value} (hx : a.eval x = v)
    (h : ∀ w', Blk w' w.heap.size v.cells.toList t → Kept (fun _ => False) w w' → w'.heap.size = w.heap.size + 1 → wpList P ops Q rest (a.put dst (.pointer (some ⟨w.heap.size, 0, none⟩))) w') :
    wpList P ops Q (⟨dst, .box t x, ty, pos, aft, none⟩ :: rest) a w :=
  wpList_run rfl run_box_agg (by rw [hx]; exact h _ (Blk.newA w _ t) (Kept.alloc _ w _) (by simp))

theorem aw_load {t : TypeId} {x : Operand} {b off n : Nat} {L M : List Value} {e : TypeId} (ht : aggSize P t n) (hx : a.eval x = .pointer (some ⟨b, off, none⟩)) (hb : Blk w b L e) (hl : off + n ≤ L.length) (hM : (L.drop off).take n = M)
    (h : wpList P ops Q rest (a.put dst (.agg M.toArray)) w) : wpList P ops Q (⟨dst, .load t x, ty, pos, aft, none⟩ :: rest) a w := by
  subst hM
  exact wpList_run rfl (run_load_agg ht hx hb hl) h

theorem aw_store {t : TypeId} {x y : Operand} {b off n : Nat} {L M : List Value} {e : TypeId} (ht : aggSize P t n) (hx : a.eval x = .pointer (some ⟨b, off, none⟩)) (hy : a.eval y = .agg M.toArray) (hM : M.length = n)
    (h1 : ∀ v ∈ M, v.oneCell' = true) (hb : Blk w b L e) (hl : off + n ≤ L.length)
    (h : ∀ w', Blk w' b (put L off M) e → Kept (fun k => k = b) w w' → w'.heap.size = w.heap.size → wpList P ops Q rest (a.put dst undef) w') : wpList P ops Q (⟨dst, .store t x y, ty, pos, aft, none⟩ :: rest) a w := by
  have hr := run_store_agg (P := P) (ρ := a.eval) (dst := dst) (ty := ty) (pos := pos) (aft := aft) (gd := none) ht hx hy hM h1 hb hl
  refine wpList_run_skip rfl hr (h _ ?_ (Kept.setRow (S := fun k => k = b) w b _ rfl) (by simp [World.setRow]))
  have := hb.setRow (L.take off ++ M ++ L.drop (off + n))
  unfold put; rw [hM]; exact this

theorem aw_make {t e : TypeId} {l c : Operand} {i : TypeInfo} {z : Value} (m : Nat) (hm : 0 < m) (ht : P.underlying t = some (.slice e)) (hi : P.info? e = some i) {zc : Value} (hz : i.zero = some zc) (hzc : zc.cells = (List.replicate m z).toArray) (hsz : i.size = m)
    (n : Nat) {kl kc : IntKind} (hl : a.eval l = .int kl n) (hc : a.eval c = .int kc n) (hb : i.bytes * n ≤ 281474976710656) (h63 : n ≤ maxLen)
    (h : ∀ w', Blk w' w.heap.size (List.replicate (n * m) z) e → Kept (fun _ => False) w w' → w'.heap.size = w.heap.size + 1 → wpList P ops Q rest (a.put dst (.slice (some ⟨w.heap.size, 0, none⟩) n n)) w') :
    wpList P ops Q (⟨dst, .makeSlice t l c, ty, pos, aft, none⟩ :: rest) a w :=
  wpList_run rfl (run_make_op m hm ht hi hz hzc hsz n hl hc hb h63) (h _ (Blk.new w _ e) (Kept.alloc _ w _) (by simp))

theorem run_copy_blk {dT sT elem : TypeId} {i : TypeInfo} {g off dLen dCap b so sLen sCap : Nat} {G L : List Value} {tg tb : TypeId} (hu : P.underlying dT = some (.slice elem)) (hi : P.info? elem = some i)
    (m : Nat) (hm : m = Nat.min sLen dLen) (hg : Blk w g G tg) (hb : Blk w b L tb) (hs : so + m * i.size ≤ L.length) (hd : off + m * i.size ≤ G.length) (h1 : ∀ v ∈ L, v.oneCell' = true) :
    (Builtin.copy_ #[dT, sT] ty #[.slice (some ⟨g, off, none⟩) dLen dCap, .slice (some ⟨b, so, none⟩) sLen sCap]).run P w =
      .ok (goInt m) (w.setRow g (put G off ((L.drop so).take (m * i.size))).toArray) := by
  have hlen : ((L.drop so).take (m * i.size)).length = m * i.size := by simp; omega
  have hl := run_firstCells_some (P := P) w i.size m ⟨b, so, none⟩ sLen sCap ((L.drop so).take (m * i.size)) hlen (fun j v hj => by
    rw [addr_add, hb.cell]
    have hjn : j < m * i.size := by
      rcases Nat.lt_or_ge j (m * i.size) with h | h
      · exact h
      · rw [List.getElem?_eq_none (by rw [hlen]; exact h)] at hj; cases hj
    rw [List.getElem?_take] at hj
    simp [hjn] at hj
    exact hj)
  have hst := run_storeCells_at P g off tg ((L.drop so).take (m * i.size)) 0 G.toArray w hg (by simp; omega) (fun v hv => h1 v (List.mem_of_mem_drop (List.mem_of_mem_take hv)))
  rw [hlen] at hst
  have hp : put G off ((L.drop so).take (m * i.size)) = G.take (off + 0) ++ (L.drop so).take (m * i.size) ++ G.drop (off + 0 + m * i.size) := by
    unfold put; rw [hlen]; simp
  rw [hp]
  simp only at hst
  simp [Builtin.copy_, run_underlying hu, Builtin.lenOf, sizeOf, typeInfo, hi, ← hm, hl, hst]

theorem aw_copy {d s : Operand} {dT sT elem : TypeId} {i : TypeInfo} {g off dLen dCap b so sLen sCap : Nat} {G L : List Value} {tg tb : TypeId} (hu : P.underlying dT = some (.slice elem)) (hi : P.info? elem = some i) (sz : Nat) (hsz : i.size = sz)
    (hd : a.eval d = .slice (some ⟨g, off, none⟩) dLen dCap) (hs : a.eval s = .slice (some ⟨b, so, none⟩) sLen sCap)
    (m : Nat) (hm : m = min sLen dLen) (hg : Blk w g G tg) (hb : Blk w b L tb) (hso : so + m * sz ≤ L.length) (hdo : off + m * sz ≤ G.length) (h1 : ∀ v ∈ L, v.oneCell' = true)
    (h : ∀ w', Blk w' g (put G off ((L.drop so).take (m * sz))) tg → Kept (fun k => k = g) w w' → w'.heap.size = w.heap.size → wpList P ops Q rest (a.put dst (goInt m)) w') :
    wpList P ops Q (⟨dst, .call { callee := .builtin .copy, args := #[d, s], argTypes := #[dT, sT] }, ty, pos, aft, none⟩ :: rest) a w := by
  subst hsz
  refine wpList_run rfl ?_ (h _ (hg.setRow _) (Kept.setRow (S := fun k => k = g) w g _ rfl) (by simp [World.setRow]))
  have hr := run_copy_blk (P := P) (ty := ty) (dT := dT) (sT := sT) (elem := elem) (dLen := dLen) (dCap := dCap) (sLen := sLen) (sCap := sCap) (so := so) (off := off) hu hi m hm hg hb hso hdo h1
  simp [execOp, resolve, invoke, builtin, hd, hs, hr]

end

/-- The cells M lie from ⟨b, so⟩ on. -/
def Cells (w : World) (b so : Nat) (M : List Value) : Prop := ∀ (j : Nat) (v : Value), M[j]? = some v → w.cell? ⟨b, so + j, none⟩ = some v

theorem Blk.cells {w : World} {b : Nat} {L : List Value} {t : TypeId} (h : Blk w b L t) (so n : Nat) : Cells w b so ((L.drop so).take n) := by
  intro j v hj
  rw [h.cell]
  rw [List.getElem?_take] at hj
  split at hj
  · rw [List.getElem?_drop] at hj; exact hj
  · cases hj

theorem Cells.part {w : World} {b so : Nat} {M : List Value} (h : Cells w b so M) (o n : Nat) : Cells w b (so + o) ((M.drop o).take n) := by
  intro j v hj
  rw [List.getElem?_take] at hj
  split at hj
  · rw [List.getElem?_drop] at hj
    have := h _ v hj
    rw [Nat.add_assoc]; exact this
  · cases hj

theorem Kept.cells {S : Nat → Prop} {w w' : World} {b so : Nat} {M : List Value} (h : Kept S w w') (hc : Cells w b so M) (hn : ¬ S b) : Cells w' b so M := by
  intro j v hj
  have h1 := hc j v hj
  exact (World.cell?_of_block (h.block b (World.block_lt_of_cell? w _ h1) hn)).trans h1

theorem aw_copyC {P : Program} {ops : Array Oper} {Q : Exit → Act → World → Prop} {a : Act} {w : World} {rest : List Oper} {dst : Option Tmp} {ty : TypeId} {pos : String} {aft : Array Edge} {d s : Operand} {dT sT elem : TypeId} {i : TypeInfo} {g off dLen dCap b so sLen sCap : Nat} {G M : List Value} {tg : TypeId} (hu : P.underlying dT = some (.slice elem)) (hi : P.info? elem = some i) (sz : Nat) (hsz : i.size = sz)
    (hd : a.eval d = .slice (some ⟨g, off, none⟩) dLen dCap) (hs : a.eval s = .slice (some ⟨b, so, none⟩) sLen sCap)
    (m : Nat) (hm : m = min sLen dLen) (hg : Blk w g G tg) (hb : Cells w b so M) (hM : M.length = m * sz) (hdo : off + m * sz ≤ G.length) (h1 : ∀ v ∈ M, v.oneCell' = true)
    (h : ∀ w', Blk w' g (put G off M) tg → Kept (fun k => k = g) w w' → w'.heap.size = w.heap.size → wpList P ops Q rest (a.put dst (goInt m)) w') :
    wpList P ops Q (⟨dst, .call { callee := .builtin .copy, args := #[d, s], argTypes := #[dT, sT] }, ty, pos, aft, none⟩ :: rest) a w := by
  subst hsz
  refine wpList_run rfl ?_ (h _ (hg.setRow _) (Kept.setRow (S := fun k => k = g) w g _ rfl) (by simp [World.setRow]))
  have hl := run_firstCells_some (P := P) w i.size m ⟨b, so, none⟩ sLen sCap M hM (fun j v hj => by rw [addr_add]; exact hb j v hj)
  have hst := run_storeCells_at P g off tg M 0 G.toArray w hg (by simp; omega) h1
  have hp : put G off M = G.take (off + 0) ++ M ++ G.drop (off + 0 + M.length) := by unfold put; simp
  rw [hp]
  simp only at hst
  have hm' : m = Nat.min sLen dLen := hm
  simp [execOp, resolve, invoke, builtin, hd, hs, Builtin.copy_, run_underlying hu, Builtin.lenOf, sizeOf, typeInfo, hi, ← hm', hl, hst]

/-- A region that draws its order, all but a forced tail of which only reads. -/
theorem region_tail {P : Program} {id : Nat} {Q : Exit → Act → World → Prop} {a : Act} {w : World} {l : List Oper} (n : Nat) (hm : P.follows .mixedOrders = true) (hB : Region.lexTailB .any l.toArray n = true)
    (h : ∀ w', Kept (fun _ => False) w w' → w'.heap.size = w.heap.size → wpStill P l.toArray w' (fun a' => wpList P l.toArray Q (l.drop n) a' w') (l.take n) a) : (Code.region id l.toArray true).wp P Q a w :=
  wp_region_still_tail n hm hB (h _ ⟨rfl, rfl, rfl, Nat.le_refl _, fun _ _ _ => rfl⟩ rfl)

theorem run_slice_lo {P : Program} {ρ : Operand → Value} {w : World} {dst : Option Tmp} {t ty elem : TypeId} {x lo : Operand} {pos : String} {aft : Array Edge} {gd : Option (Nat × Bool)} {i : TypeInfo} {b off len cap : Nat} {k : IntKind}
    (ht : P.underlying t = some (.slice elem)) (hi : P.info? elem = some i) (hx : ρ x = .slice (some ⟨b, off, none⟩) len cap) (l : Nat) (hlo : ρ lo = .int k l) (hl : l ≤ len) (hc : l < cap) :
    (execOp ρ ⟨dst, .slice t x (some lo) none none, ty, pos, aft, gd⟩).run P w = .ok (.value (.slice (some ⟨b, off + l * i.size, none⟩) (len - l) (cap - l))) w := by
  have h1 : ¬ cap = l := by omega
  have h2 : (0 : Int) ≤ (l : Int) ∧ (l : Int) ≤ (len : Int) := by omega
  simp [execOp, Instr.sliceAt, run_underlying ht, Instr.slice, hx, hlo, Instr.sliceBounds, Instr.sliceBound, asIntOf, h2, hl, sizeOf, typeInfo, hi, h1, addr_add]

theorem run_slice_any {P : Program} {ρ : Operand → Value} {w : World} {dst : Option Tmp} {t ty elem : TypeId} {x lo : Operand} {pos : String} {aft : Array Edge} {gd : Option (Nat × Bool)} {i : TypeInfo} {b off len cap : Nat} {k : IntKind}
    (ht : P.underlying t = some (.slice elem)) (hi : P.info? elem = some i) (hx : ρ x = .slice (some ⟨b, off, none⟩) len cap) (l : Nat) (hlo : ρ lo = .int k l) (hl : l ≤ len) (so : Nat) (hso : so = if cap = l then off else off + l * i.size) :
    (execOp ρ ⟨dst, .slice t x (some lo) none none, ty, pos, aft, gd⟩).run P w = .ok (.value (.slice (some ⟨b, so, none⟩) (len - l) (cap - l))) w := by
  have h2 : (0 : Int) ≤ (l : Int) ∧ (l : Int) ≤ (len : Int) := by omega
  subst hso
  by_cases h1 : cap = l
  · simp [execOp, Instr.sliceAt, run_underlying ht, Instr.slice, hx, hlo, Instr.sliceBounds, Instr.sliceBound, asIntOf, h2, hl, sizeOf, typeInfo, hi, h1]
  · simp [execOp, Instr.sliceAt, run_underlying ht, Instr.slice, hx, hlo, Instr.sliceBounds, Instr.sliceBound, asIntOf, h2, hl, sizeOf, typeInfo, hi, h1, addr_add]

theorem aw_slice_any {P : Program} {ops : Array Oper} {Q : Exit → Act → World → Prop} {a : Act} {w : World} {rest : List Oper} {dst : Option Tmp} {t ty elem : TypeId} {x lo : Operand} {pos : String} {aft : Array Edge} {i : TypeInfo} {b off len cap : Nat} {k : IntKind}
    (ht : P.underlying t = some (.slice elem)) (hi : P.info? elem = some i) (sz : Nat) (hsz : i.size = sz) (hx : a.eval x = .slice (some ⟨b, off, none⟩) len cap) (l : Nat) (hlo : a.eval lo = .int k l) (hl : l ≤ len) (so : Nat) (hso : so = if cap = l then off else off + l * sz)
    (h : wpList P ops Q rest (a.put dst (.slice (some ⟨b, so, none⟩) (len - l) (cap - l))) w) : wpList P ops Q (⟨dst, .slice t x (some lo) none none, ty, pos, aft, none⟩ :: rest) a w := by
  subst hsz
  exact wpList_run rfl (run_slice_any ht hi hx l hlo hl so hso) h

theorem st_slice_lo {P : Program} {ops : Array Oper} {Q : Act → Prop} {a : Act} {w : World} {rest : List Oper} {dst : Option Tmp} {t ty elem : TypeId} {x lo : Operand} {pos : String} {aft : Array Edge} {i : TypeInfo} {b off len cap : Nat} {k : IntKind}
    (ht : P.underlying t = some (.slice elem)) (hi : P.info? elem = some i) (sz : Nat) (hsz : i.size = sz) (hx : a.eval x = .slice (some ⟨b, off, none⟩) len cap) (l : Nat) (hlo : a.eval lo = .int k l) (hl : l ≤ len) (hc : l < cap)
    (h : wpStill P ops w Q rest (a.put dst (.slice (some ⟨b, off + l * sz, none⟩) (len - l) (cap - l)))) : wpStill P ops w Q (⟨dst, .slice t x (some lo) none none, ty, pos, aft, none⟩ :: rest) a := by
  subst hsz
  exact wpStill_run rfl (run_slice_lo ht hi hx l hlo hl hc) h

theorem aw_slice_lo {P : Program} {ops : Array Oper} {Q : Exit → Act → World → Prop} {a : Act} {w : World} {rest : List Oper} {dst : Option Tmp} {t ty elem : TypeId} {x lo : Operand} {pos : String} {aft : Array Edge} {i : TypeInfo} {b off len cap : Nat} {k : IntKind}
    (ht : P.underlying t = some (.slice elem)) (hi : P.info? elem = some i) (sz : Nat) (hsz : i.size = sz) (hx : a.eval x = .slice (some ⟨b, off, none⟩) len cap) (l : Nat) (hlo : a.eval lo = .int k l) (hl : l ≤ len) (hc : l < cap)
    (h : wpList P ops Q rest (a.put dst (.slice (some ⟨b, off + l * sz, none⟩) (len - l) (cap - l))) w) : wpList P ops Q (⟨dst, .slice t x (some lo) none none, ty, pos, aft, none⟩ :: rest) a w := by
  subst hsz
  exact wpList_run rfl (run_slice_lo ht hi hx l hlo hl hc) h

theorem st_load {P : Program} {ops : Array Oper} {Q : Act → Prop} {a : Act} {w : World} {rest : List Oper} {dst : Option Tmp} {ty : TypeId} {pos : String} {aft : Array Edge} {t : TypeId} {x : Operand} {b off n : Nat} {L M : List Value} {e : TypeId}
    (ht : aggSize P t n) (hx : a.eval x = .pointer (some ⟨b, off, none⟩)) (hb : Blk w b L e) (hl : off + n ≤ L.length) (hM : (L.drop off).take n = M)
    (h : wpStill P ops w Q rest (a.put dst (.agg M.toArray))) : wpStill P ops w Q (⟨dst, .load t x, ty, pos, aft, none⟩ :: rest) a := by
  subst hM
  exact wpStill_run rfl (run_load_agg ht hx hb hl) h

end Go.Proofs.Ytclfklcboigifaa
