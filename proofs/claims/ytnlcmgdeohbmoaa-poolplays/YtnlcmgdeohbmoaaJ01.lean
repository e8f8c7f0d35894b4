/-
  Laws of our own: blocks of cells known whole ('Blk'), what a piece of work keeps ('Kept'), and the run of operations on values of many cells. No condition beyond each law's own premises. Nothing of a program's dump is used here.
-/
import Derived.WalkKit
import Derived.WalkSpells
import Derived.WalkLawsBesides
import Derived.Laws.CopyOwn
import Derived.StillTailTactics
import Derived.OrdersHeld
namespace Go.Proofs.Ytnlcmgdeohbmoaa
open Go.RowKit
set_option linter.unusedSimpArgs false
set_option linter.unusedVariables false
set_option maxRecDepth 100000

theorem hide {p : Prop} (h : p) : Hid p := h

/-- The block b holds just the cells L, none frozen; its elements are of type t. -/
def Blk (w : World) (b : Nat) (L : List Value) (t : TypeId) : Prop := w.heap[b]? = some (.cells L.toArray t (0, 0))

theorem Blk.lt {w : World} {b : Nat} {L : List Value} {t : TypeId} (h : Blk w b L t) : b < w.heap.size := (Array.getElem?_eq_some_iff.1 h).1

theorem Blk.cell {w : World} {b : Nat} {L : List Value} {t : TypeId} (h : Blk w b L t) (i : Nat) : w.cell? ⟨b, i, none⟩ = L[i]? := by
  unfold Blk at h; simp [World.cell?, h]

theorem Blk.frozen {w : World} {b : Nat} {L : List Value} {t : TypeId} (h : Blk w b L t) (i : Nat) : w.frozen? ⟨b, i, none⟩ = false := by
  unfold Blk at h; simp [World.frozen?, h]

theorem Blk.ne {w : World} {b c : Nat} {L M : List Value} {t u : TypeId} (h : Blk w b L t) (k : Blk w c M u) (hne : t ≠ u) : b ≠ c := by
  intro e; subst e; unfold Blk at h k; rw [h] at k; simp at k; exact hne k.2

theorem Blk.same {w : World} {b : Nat} {L M : List Value} {t u : TypeId} (h : Blk w b L t) (k : Blk w b M u) : L = M ∧ t = u := by
  unfold Blk at h k; rw [h] at k; simp at k; exact k

/-- All old blocks but those of S are as they were. -/
structure Kept (S : Nat → Prop) (w w' : World) : Prop where
  os : w'.os = w.os
  tape : w'.tape = w.tape
  output : w'.output = w.output
  size : w.heap.size ≤ w'.heap.size
  block : ∀ k, k < w.heap.size → ¬ S k → w'.heap[k]? = w.heap[k]?

theorem Kept.refl (S : Nat → Prop) (w : World) : Kept S w w := ⟨rfl, rfl, rfl, Nat.le_refl _, fun _ _ _ => rfl⟩

theorem Kept.trans {S T : Nat → Prop} {a b c : World} (h : Kept S a b) (k : Kept T b c) (hs : ∀ i, i < a.heap.size → T i → S i) : Kept S a c :=
  ⟨k.os.trans h.os, k.tape.trans h.tape, k.output.trans h.output, Nat.le_trans h.size k.size,
   fun i hi hn => (k.block i (Nat.lt_of_lt_of_le hi h.size) (fun t => hn (hs i hi t))).trans (h.block i hi hn)⟩

theorem Kept.mono {S T : Nat → Prop} {a b : World} (h : Kept S a b) (hs : ∀ i, i < a.heap.size → S i → T i) : Kept T a b :=
  ⟨h.os, h.tape, h.output, h.size, fun i hi hn => h.block i hi (fun t => hn (hs i hi t))⟩

theorem Kept.blk {S : Nat → Prop} {w w' : World} {b : Nat} {L : List Value} {t : TypeId} (h : Kept S w w') (hb : Blk w b L t) (hn : ¬ S b) : Blk w' b L t :=
  (h.block b hb.lt hn).trans hb

theorem Kept.drew {S : Nat → Prop} {a w : World} (h : Kept S a w) : Kept S a w.drew := ⟨h.os, h.tape, h.output, h.size, h.block⟩

theorem Kept.below {w w' : World} (h : Kept (fun _ => False) w w') : Below w.heap.size w w' :=
  ⟨h.os, h.tape, h.output, h.size, fun k hk => h.block k hk (fun h => h)⟩

theorem Kept.of_below {B : Nat} {w w' : World} (h : Below B w w') : Kept (fun k => B ≤ k) w w' :=
  ⟨h.os, h.tape, h.output, h.size, fun k _ hn => h.block k (by omega)⟩

theorem Kept.of_grown {w w' : World} {row : Option Nat} (h : w.grownBy w' row) : Kept (fun k => row = some k) w w' :=
  ⟨h.os, h.tape, h.output, h.size, fun k hk hn => h.block k hk (fun e => hn e.symm)⟩

theorem Kept.alloc (S : Nat → Prop) (w : World) (o : Obj) : Kept S w (w.alloc o) :=
  ⟨rfl, rfl, rfl, by simp, fun k hk _ => Below.heap_alloc w o k hk⟩

theorem Kept.setRow {S : Nat → Prop} (w : World) (g : Nat) (cs : Array Value) (hg : S g) : Kept S w (w.setRow g cs) :=
  ⟨rfl, rfl, rfl, by simp [World.setRow], fun k _ hn => setRow_other w g k cs (fun e => hn (e ▸ hg))⟩

theorem Kept.setCell {S : Nat → Prop} (w : World) (a : Addr) (v : Value) (hg : S a.block) : Kept S w (w.setCell a v) :=
  ⟨rfl, rfl, rfl, by simp [World.setCell], fun k _ hn => Below.heap_setCell w a v k (fun e => hn (e ▸ hg))⟩

theorem Blk.drew {w : World} {b : Nat} {L : List Value} {t : TypeId} (h : Blk w b L t) : Blk w.drew b L t := h

theorem Blk.new (w : World) (L : List Value) (t : TypeId) : Blk (w.alloc (.cells L.toArray t)) w.heap.size L t := heap_alloc_new w _

theorem Blk.newA (w : World) (c : Array Value) (t : TypeId) : Blk (w.alloc (.cells c t)) w.heap.size c.toList t := by
  have := heap_alloc_new w (.cells c t); unfold Blk; simpa using this

theorem Blk.setRow {w : World} {b : Nat} {L : List Value} {t : TypeId} (h : Blk w b L t) (M : List Value) : Blk (w.setRow b M.toArray) b M t :=
  setRow_heap w b _ _ t _ h

theorem Blk.setCell {w : World} {b : Nat} {L : List Value} {t : TypeId} (h : Blk w b L t) (i : Nat) (v : Value) : Blk (w.setCell ⟨b, i, none⟩ v) b (L.set i v) t := by
  have hlt := h.lt
  have hv : w.heap[b] = .cells L.toArray t (0, 0) := (Array.getElem?_eq_some_iff.1 h).2
  unfold Blk World.setCell
  rw [Array.getElem?_eq_getElem (by simpa using hlt), Array.getElem_modify]
  simp [hv]

/-- A step whose run is known. -/
theorem wpList_run {P : Program} {ops : Array Oper} {Q : Exit → Act → World → Prop} {a : Act} {w w' : World} {rest : List Oper} {o : Oper} {v : Value} (hg : o.guard = none)
    (hr : (execOp a.eval o).run P w = .ok (.value v) w') (h : wpList P ops Q rest (a.put o.dst v) w') : wpList P ops Q (o :: rest) a w :=
  wpList_plain hg fun K hK => by unfold Oper.wp; rw [hr]; exact hK _ _ h

theorem wpList_run_skip {P : Program} {ops : Array Oper} {Q : Exit → Act → World → Prop} {a : Act} {w w' : World} {rest : List Oper} {o : Oper} (hg : o.guard = none)
    (hr : (execOp a.eval o).run P w = .ok .skip w') (h : wpList P ops Q rest (a.put o.dst undef) w') : wpList P ops Q (o :: rest) a w :=
  wpList_plain hg fun K hK => by unfold Oper.wp; rw [hr]; exact hK _ _ h

theorem wpStill_run {P : Program} {ops : Array Oper} {Q : Act → Prop} {a : Act} {w : World} {rest : List Oper} {o : Oper} {v : Value} (hg : o.guard = none)
    (hr : (execOp a.eval o).run P w = .ok (.value v) w) (h : wpStill P ops w Q rest (a.put o.dst v)) : wpStill P ops w Q (o :: rest) a :=
  wpStill_step fun K hK => by
    simp only [Region.wanted, hg, if_true]
    unfold Oper.still; rw [hr]; exact ⟨rfl, hK _ h⟩

theorem addr_add (b off j : Nat) : (⟨b, off, none⟩ : Addr).add j = ⟨b, off + j, none⟩ := by
  unfold Addr.add; split <;> simp_all

/-- What an aggregate's type tells: its size. -/
def aggSize (P : Program) (t : TypeId) (n : Nat) : Prop := (∃ i, P.info? t = some i ∧ i.size = n) ∧ (∃ d, P.underlying t = some d ∧ ((∃ k e, d = .array k e) ∨ (∃ fs, d = .struct fs)))

theorem run_isAgg {P : Program} {t : TypeId} {n : Nat} (h : aggSize P t n) (w : World) : (isAgg t).run P w = .ok true w := by
  obtain ⟨_, d, hd, hk⟩ := h
  rcases hk with ⟨k, e, rfl⟩ | ⟨fs, rfl⟩ <;> simp [isAgg, run_underlying hd]

theorem run_sizeOf {P : Program} {t : TypeId} {n : Nat} (h : aggSize P t n) (w : World) : (sizeOf t).run P w = .ok n w := by
  obtain ⟨⟨i, hi, rfl⟩, _⟩ := h
  simp [sizeOf, typeInfo, hi]

theorem run_load_agg {P : Program} {ρ : Operand → Value} {w : World} {dst : Option Tmp} {t ty : TypeId} {x : Operand} {pos : String} {aft : Array Edge} {gd : Option (Nat × Bool)} {b off n : Nat} {L : List Value} {e : TypeId}
    (ht : aggSize P t n) (hx : ρ x = .pointer (some ⟨b, off, none⟩)) (hb : Blk w b L e) (hl : off + n ≤ L.length) :
    (execOp ρ ⟨dst, .load t x, ty, pos, aft, gd⟩).run P w = .ok (.value (.agg ((L.drop off).take n).toArray)) w := by
  have hlen : ((L.drop off).take n).length = n := by simp; omega
  have hc := run_loadCells_list (P := P) w ⟨b, off, none⟩ ((L.drop off).take n) (fun j v hj => by
    rw [addr_add, hb.cell]
    have hjn : j < n := by
      rcases Nat.lt_or_ge j n with h | h
      · exact h
      · rw [List.getElem?_eq_none (by rw [hlen]; exact h)] at hj; cases hj
    rw [List.getElem?_take] at hj
    simp [hjn] at hj
    exact hj)
  rw [hlen] at hc
  simp [execOp, Instr.loadAt, hx, Instr.sureAddr, loadVar, run_isAgg ht, run_sizeOf ht, hc]

theorem run_store_agg {P : Program} {ρ : Operand → Value} {w : World} {dst : Option Tmp} {t ty : TypeId} {x y : Operand} {pos : String} {aft : Array Edge} {gd : Option (Nat × Bool)} {b off n : Nat} {L M : List Value} {e : TypeId}
    (ht : aggSize P t n) (hx : ρ x = .pointer (some ⟨b, off, none⟩)) (hy : ρ y = .agg M.toArray) (hM : M.length = n) (h1 : ∀ v ∈ M, v.oneCell' = true) (hb : Blk w b L e) (hl : off + n ≤ L.length) :
    (execOp ρ ⟨dst, .store t x y, ty, pos, aft, gd⟩).run P w = .ok .skip (w.setRow b (L.take off ++ M ++ L.drop (off + n)).toArray) := by
  have hs := run_storeCells_at (P := P) b off e M 0 L.toArray w hb (by simp; omega) h1
  simp [execOp, Instr.storeAt, hx, hy, Instr.sureAddr, storeVar, Value.cells, run_sizeOf ht, hM]
  simp [hM] at hs
  rw [hs]
  simp

theorem run_alloc_agg {P : Program} {ρ : Operand → Value} {w : World} {dst : Option Tmp} {t ty : TypeId} {pos : String} {aft : Array Edge} {gd : Option (Nat × Bool)} {i : TypeInfo} {z : Value}
    (hi : P.info? t = some i) (hz : i.zero = some z) :
    (execOp ρ ⟨dst, .alloc t, ty, pos, aft, gd⟩).run P w = .ok (.value (.pointer (some ⟨w.heap.size, 0, none⟩))) (w.alloc (.cells z.cells t)) := by
  simp [execOp, Instr.alloc, zeroValue, typeInfo, hi, hz, newVar, newRow]

theorem run_box_agg {P : Program} {ρ : Operand → Value} {w : World} {dst : Option Tmp} {t ty : TypeId} {x : Operand} {pos : String} {aft : Array Edge} {gd : Option (Nat × Bool)} :
    (execOp ρ ⟨dst, .box t x, ty, pos, aft, gd⟩).run P w = .ok (.value (.pointer (some ⟨w.heap.size, 0, none⟩))) (w.alloc (.cells (ρ x).cells t)) := by
  simp [execOp, Instr.box, newVar, newRow]

theorem madeCells_rep (z : Value) (m : Nat) (hm : 0 < m) (n : Nat) : madeCells (List.replicate m z).toArray n = (List.replicate n z).toArray := by
  apply Array.ext
  · simp [madeCells]
  · intro i h1 h2
    have : i % m < m := Nat.mod_lt _ hm
    simp [madeCells, this]

theorem run_make_op {P : Program} {ρ : Operand → Value} {w : World} {dst : Option Tmp} {t ty e : TypeId} {l c : Operand} {pos : String} {aft : Array Edge} {gd : Option (Nat × Bool)} {i : TypeInfo} {z : Value}
    (m : Nat) (hm : 0 < m) (ht : P.underlying t = some (.slice e)) (hi : P.info? e = some i) {zc : Value} (hz : i.zero = some zc) (hzc : zc.cells = (List.replicate m z).toArray) (hsz : i.size = m) (n : Nat)
    {kl kc : IntKind} (hl : ρ l = .int kl n) (hc : ρ c = .int kc n) (hb : i.bytes * n ≤ 281474976710656) (h63 : n ≤ maxLen) :
    (execOp ρ ⟨dst, .makeSlice t l c, ty, pos, aft, gd⟩).run P w = .ok (.value (.slice (some ⟨w.heap.size, 0, none⟩) n n)) (w.alloc (.cells (List.replicate (n * m) z).toArray e)) := by
  have h := run_make (P := P) w t e i zc ht hi hz kl kc (n : Int) (n : Int) (by omega) (by omega) (by have := Int.ofNat_le.2 hb; rw [Int.natCast_mul] at this; exact this) (by unfold maxLen at h63; omega)
  simp only [Int.toNat_natCast, hzc, hsz, madeCells_rep z m hm] at h
  simp [execOp, hl, hc, h]

/-- M laid over L from off on. -/
def put (L : List Value) (off : Nat) (M : List Value) : List Value := L.take off ++ M ++ L.drop (off + M.length)

theorem length_put (L : List Value) (off : Nat) (M : List Value) (h : off + M.length ≤ L.length) : (put L off M).length = L.length := by
  simp [put]; omega

theorem put_whole (Z M : List Value) (h : Z.length = M.length) : put Z 0 M = M := by
  unfold put; rw [List.drop_eq_nil_of_le (by omega)]; simp

section
variable {P : Program} {ops : Array Oper} {Q : Exit → Act → World → Prop} {a : Act} {w : World} {rest : List Oper} {dst : Option Tmp} {ty : TypeId} {pos : String} {aft : Array Edge}

/-- For walking by hand: the walk stands still at this goal. -/
theorem stop_store (t : TypeId) {x y : Operand} (h : Hid (wpList P ops Q (⟨dst, .store t x y, ty, pos, aft, none⟩ :: rest) a w)) : wpList P ops Q (⟨dst, .store t x y, ty, pos, aft, none⟩ :: rest) a w := h.out
theorem stop_load (t : TypeId) {x : Operand} (h : Hid (wpList P ops Q (⟨dst, .load t x, ty, pos, aft, none⟩ :: rest) a w)) : wpList P ops Q (⟨dst, .load t x, ty, pos, aft, none⟩ :: rest) a w := h.out

theorem aw_alloc {t : TypeId} {i : TypeInfo} {z : Value} (hi : P.info? t = some i) (hz : i.zero = some z)
    (h : ∀ w', Blk w' w.heap.size z.cells.toList t → Kept (fun _ => False) w w' → w'.heap.size = w.heap.size + 1 → wpList P ops Q rest (a.put dst (.pointer (some ⟨w.heap.size, 0, none⟩))) w') :
    wpList P ops Q (⟨dst, .alloc t, ty, pos, aft, none⟩ :: rest) a w :=
  wpList_run rfl (run_alloc_agg hi hz) (h _ (Blk.newA w _ t) (Kept.alloc _ w _) (by simp))

theorem aw_box {t : TypeId} {x : Operand} {v : Value} (hx : a.eval x = v)
    (h : ∀ w', Blk w' w.heap.size v.cells.toList t → Kept (fun _ => False) w w' → w'.heap.size = w.heap.size + 1 → wpList P ops Q rest (a.put dst (.pointer (some ⟨w.heap.size, 0, none⟩))) w') :
    wpList P ops Q (⟨dst, .box t x, ty, pos, aft, none⟩ :: rest) a w :=
  wpList_run rfl run_box_agg (by rw [hx]; exact h _ (Blk.newA w _ t) (Kept.alloc _ w _) (by simp))

theorem aw_load {t : TypeId} {x : Operand} {b off n : Nat} {L M : List Value} {e : TypeId} (ht : aggSize P t n) (hx : a.eval x = .pointer (some ⟨b, off, none⟩)) (hb : Blk w b L e) (hl : off + n ≤ L.length) (hM : (L.drop off).take n = M)
    (h : wpList P ops Q rest (a.put dst (.agg M.toArray)) w) : wpList P ops Q (⟨dst, .load t x, ty, pos, aft, none⟩ :: rest) a w := by
  subst hM
  exact wpList_run rfl (run_load_agg ht hx hb hl) h

theorem aw_store {t : TypeId} {x y : Operand} {b off n : Nat} {L M : List Value} {e : TypeId} (ht : aggSize P t n) (hx : a.eval x = .pointer (some ⟨b, off, none⟩)) (hy : a.eval y = .agg M.toArray) (hM : M.length = n)
    (h1 : ∀ v ∈ M, v.oneCell' = true) (hb : Blk w b L e) (hl : off + n ≤ L.length)
    (h : ∀ w', Blk w' b (put L off M) e → Kept (fun k => k = b) w w' → w'.heap.size = w.heap.size → wpList P ops Q rest (a.put dst undef) w') : wpList P ops Q (⟨dst, .store t x y, ty, pos, aft, none⟩ :: rest) a w := by
  have hr := run_store_agg (P := P) (ρ := a.eval) (dst := dst) (ty := ty) (pos := pos) (aft := aft) (gd := none) ht hx hy hM h1 hb hl
  refine wpList_run_skip rfl hr (h _ ?_ (Kept.setRow (S := fun k => k = b) w b _ rfl) (by simp [World.setRow]))
  have := hb.setRow (L.take off ++ M ++ L.drop (off + n))
  unfold put; rw [hM]; exact this

theorem aw_make {t e : TypeId} {l c : Operand} {i : TypeInfo} {z : Value} (m : Nat) (hm : 0 < m) (ht : P.underlying t = some (.slice e)) (hi : P.info? e = some i) {zc : Value} (hz : i.zero = some zc) (hzc : zc.cells = (List.replicate m z).toArray) (hsz : i.size = m)
    (n : Nat) {kl kc : IntKind} (hl : a.eval l = .int kl n) (hc : a.eval c = .int kc n) (hb : i.bytes * n ≤ 281474976710656) (h63 : n ≤ maxLen)
    (h : ∀ w', Blk w' w.heap.size (List.replicate (n * m) z) e → Kept (fun _ => False) w w' → w'.heap.size = w.heap.size + 1 → wpList P ops Q rest (a.put dst (.slice (some ⟨w.heap.size, 0, none⟩) n n)) w') :
    wpList P ops Q (⟨dst, .makeSlice t l c, ty, pos, aft, none⟩ :: rest) a w :=
  wpList_run rfl (run_make_op m hm ht hi hz hzc hsz n hl hc hb h63) (h _ (Blk.new w _ e) (Kept.alloc _ w _) (by simp))

theorem run_copy_blk {dT sT elem : TypeId} {i : TypeInfo} {g off dLen dCap b so sLen sCap : Nat} {G L : List Value} {tg tb : TypeId} (hu : P.underlying dT = some (.slice elem)) (hi : P.info? elem = some i)
    (m : Nat) (hm : m = Nat.min sLen dLen) (hg : Blk w g G tg) (hb : Blk w b L tb) (hs : so + m * i.size ≤ L.length) (hd : off + m * i.size ≤ G.length) (h1 : ∀ v ∈ L, v.oneCell' = true) :
    (Builtin.copy_ #[dT, sT] ty #[.slice (some ⟨g, off, none⟩) dLen dCap, .slice (some ⟨b, so, none⟩) sLen sCap]).run P w =
      .ok (goInt m) (w.setRow g (put G off ((L.drop so).take (m * i.size))).toArray) := by
  have hlen : ((L.drop so).take (m * i.size)).length = m * i.size := by simp; omega
  have hl := run_firstCells_some (P := P) w i.size m ⟨b, so, none⟩ sLen sCap ((L.drop so).take (m * i.size)) hlen (fun j v hj => by
    rw [addr_add, hb.cell]
    have hjn : j < m * i.size := by
      rcases Nat.lt_or_ge j (m * i.size) with h | h
      · exact h
      · rw [List.getElem?_eq_none (by rw [hlen]; exact h)] at hj; cases hj
    rw [List.getElem?_take] at hj
    simp [hjn] at hj
    exact hj)
  have hst := run_storeCells_at P g off tg ((L.drop so).take (m * i.size)) 0 G.toArray w hg (by simp; omega) (fun v hv => h1 v (List.mem_of_mem_drop (List.mem_of_mem_take hv)))
  rw [hlen] at hst
  have hp : put G off ((L.drop so).take (m * i.size)) = G.take (off + 0) ++ (L.drop so).take (m * i.size) ++ G.drop (off + 0 + m * i.size) := by
    unfold put; rw [hlen]; simp
  rw [hp]
  simp only at hst
  simp [Builtin.copy_, run_underlying hu, Builtin.lenOf, sizeOf, typeInfo, hi, ← hm, hl, hst]

theorem aw_copy {d s : Operand} {dT sT elem : TypeId} {i : TypeInfo} {g off dLen dCap b so sLen sCap : Nat} {G L : List Value} {tg tb : TypeId} (hu : P.underlying dT = some (.slice elem)) (hi : P.info? elem = some i) (sz : Nat) (hsz : i.size = sz)
    (hd : a.eval d = .slice (some ⟨g, off, none⟩) dLen dCap) (hs : a.eval s = .slice (some ⟨b, so, none⟩) sLen sCap)
    (m : Nat) (hm : m = min sLen dLen) (hg : Blk w g G tg) (hb : Blk w b L tb) (hso : so + m * sz ≤ L.length) (hdo : off + m * sz ≤ G.length) (h1 : ∀ v ∈ L, v.oneCell' = true)
    (h : ∀ w', Blk w' g (put G off ((L.drop so).take (m * sz))) tg → Kept (fun k => k = g) w w' → w'.heap.size = w.heap.size → wpList P ops Q rest (a.put dst (goInt m)) w') :
    wpList P ops Q (⟨dst, .call { callee := .builtin .copy, args := #[d, s], argTypes := #[dT, sT] }, ty, pos, aft, none⟩ :: rest) a w := by
  subst hsz
  refine wpList_run rfl ?_ (h _ (hg.setRow _) (Kept.setRow (S := fun k => k = g) w g _ rfl) (by simp [World.setRow]))
  have hr := run_copy_blk (P := P) (ty := ty) (dT := dT) (sT := sT) (elem := elem) (dLen := dLen) (dCap := dCap) (sLen := sLen) (sCap := sCap) (so := so) (off := off) hu hi m hm hg hb hso hdo h1
  simp [execOp, resolve, invoke, builtin, hd, hs, hr]

end

/-- The cells M lie from ⟨b, so⟩ on. -/
def Cells (w : World) (b so : Nat) (M : List Value) : Prop := ∀ (j : Nat) (v : Value), M[j]? = some v → w.cell? ⟨b, so + j, none⟩ = some v

theorem Blk.cells {w : World} {b : Nat} {L : List Value} {t : TypeId} (h : Blk w b L t) (so n : Nat) : Cells w b so ((L.drop so).take n) := by
  intro j v hj
  rw [h.cell]
  rw [List.getElem?_take] at hj
  split at hj
  · rw [List.getElem?_drop] at hj; exact hj
  · cases hj

theorem Cells.part {w : World} {b so : Nat} {M : List Value} (h : Cells w b so M) (o n : Nat) : Cells w b (so + o) ((M.drop o).take n) := by
  intro j v hj
  rw [List.getElem?_take] at hj
  split at hj
  · rw [List.getElem?_drop] at hj
    have := h _ v hj
    rw [Nat.add_assoc]; exact this
  · cases hj

theorem Kept.cells {S : Nat → Prop} {w w' : World} {b so : Nat} {M : List Value} (h : Kept S w w') (hc : Cells w b so M) (hn : ¬ S b) : Cells w' b so M := by
  intro j v hj
  have h1 := hc j v hj
  exact (World.cell?_of_block (h.block b (World.block_lt_of_cell? w _ h1) hn)).trans h1

theorem aw_copyC {P : Program} {ops : Array Oper} {Q : Exit → Act → World → Prop} {a : Act} {w : World} {rest : List Oper} {dst : Option Tmp} {ty : TypeId} {pos : String} {aft : Array Edge} {d s : Operand} {dT sT elem : TypeId} {i : TypeInfo} {g off dLen dCap b so sLen sCap : Nat} {G M : List Value} {tg : TypeId} (hu : P.underlying dT = some (.slice elem)) (hi : P.info? elem = some i) (sz : Nat) (hsz : i.size = sz)
    (hd : a.eval d = .slice (some ⟨g, off, none⟩) dLen dCap) (hs : a.eval s = .slice (some ⟨b, so, none⟩) sLen sCap)
    (m : Nat) (hm : m = min sLen dLen) (hg : Blk w g G tg) (hb : Cells w b so M) (hM : M.length = m * sz) (hdo : off + m * sz ≤ G.length) (h1 : ∀ v ∈ M, v.oneCell' = true)
    (h : ∀ w', Blk w' g (put G off M) tg → Kept (fun k => k = g) w w' → w'.heap.size = w.heap.size → wpList P ops Q rest (a.put dst (goInt m)) w') :
    wpList P ops Q (⟨dst, .call { callee := .builtin .copy, args := #[d, s], argTypes := #[dT, sT] }, ty, pos, aft, none⟩ :: rest) a w := by
  subst hsz
  refine wpList_run rfl ?_ (h _ (hg.setRow _) (Kept.setRow (S := fun k => k = g) w g _ rfl) (by simp [World.setRow]))
  have hl := run_firstCells_some (P := P) w i.size m ⟨b, so, none⟩ sLen sCap M hM (fun j v hj => by rw [addr_add]; exact hb j v hj)
  have hst := run_storeCells_at P g off tg M 0 G.toArray w hg (by simp; omega) h1
  have hp : put G off M = G.take (off + 0) ++ M ++ G.drop (off + 0 + M.length) := by unfold put; simp
  rw [hp]
  simp only at hst
  have hm' : m = Nat.min sLen dLen := hm
  simp [execOp, resolve, invoke, builtin, hd, hs, Builtin.copy_, run_underlying hu, Builtin.lenOf, sizeOf, typeInfo, hi, ← hm', hl, hst]

/-- A region that draws its order, all but a forced tail of which only reads. -/
theorem region_tail {P : Program} {id : Nat} {Q : Exit → Act → World → Prop} {a : Act} {w : World} {l : List Oper} (n : Nat) (hm : P.follows .mixedOrders = true) (hB : Region.lexTailB .any l.toArray n = true)
    (h : ∀ w', Kept (fun _ => False) w w' → w'.heap.size = w.heap.size → wpStill P l.toArray w' (fun a' => wpList P l.toArray Q (l.drop n) a' w') (l.take n) a) : (Code.region id l.toArray true).wp P Q a w :=
  wp_region_still_tail n hm hB (h _ ⟨rfl, rfl, rfl, Nat.le_refl _, fun _ _ _ => rfl⟩ rfl)

theorem run_slice_lo {P : Program} {ρ : Operand → Value} {w : World} {dst : Option Tmp} {t ty elem : TypeId} {x lo : Operand} {pos : String} {aft : Array Edge} {gd : Option (Nat × Bool)} {i : TypeInfo} {b off len cap : Nat} {k : IntKind}
    (ht : P.underlying t = some (.slice elem)) (hi : P.info? elem = some i) (hx : ρ x = .slice (some ⟨b, off, none⟩) len cap) (l : Nat) (hlo : ρ lo = .int k l) (hl : l ≤ len) (hc : l < cap) :
    (execOp ρ ⟨dst, .slice t x (some lo) none none, ty, pos, aft, gd⟩).run P w = .ok (.value (.slice (some ⟨b, off + l * i.size, none⟩) (len - l) (cap - l))) w := by
  have h1 : ¬ cap = l := by omega
  have h2 : (0 : Int) ≤ (l : Int) ∧ (l : Int) ≤ (len : Int) := by omega
  simp [execOp, Instr.sliceAt, run_underlying ht, Instr.slice, hx, hlo, Instr.sliceBounds, Instr.sliceBound, asIntOf, h2, hl, sizeOf, typeInfo, hi, h1, addr_add]

theorem run_slice_any {P : Program} {ρ : Operand → Value} {w : World} {dst : Option Tmp} {t ty elem : TypeId} {x lo : Operand} {pos : String} {aft : Array Edge} {gd : Option (Nat × Bool)} {i : TypeInfo} {b off len cap : Nat} {k : IntKind}
    (ht : P.underlying t = some (.slice elem)) (hi : P.info? elem = some i) (hx : ρ x = .slice (some ⟨b, off, none⟩) len cap) (l : Nat) (hlo : ρ lo = .int k l) (hl : l ≤ len) (so : Nat) (hso : so = if cap = l then off else off + l * i.size) :
    (execOp ρ ⟨dst, .slice t x (some lo) none none, ty, pos, aft, gd⟩).run P w = .ok (.value (.slice (some ⟨b, so, none⟩) (len - l) (cap - l))) w := by
  have h2 : (0 : Int) ≤ (l : Int) ∧ (l : Int) ≤ (len : Int) := by omega
  subst hso
  by_cases h1 : cap = l
  · simp [execOp, Instr.sliceAt, run_underlying ht, Instr.slice, hx, hlo, Instr.sliceBounds, Instr.sliceBound, asIntOf, h2, hl, sizeOf, typeInfo, hi, h1]
  · simp [execOp, Instr.sliceAt, run_underlying ht, Instr.slice, hx, hlo, Instr.sliceBounds, Instr.sliceBound, asIntOf, h2, hl, sizeOf, typeInfo, hi, h1, addr_add]

theorem aw_slice_any {P : Program} {ops : Array Oper} {Q : Exit → Act → World → Prop} {a : Act} {w : World} {rest : List Oper} {dst : Option Tmp} {t ty elem : TypeId} {x lo : Operand} {pos : String} {aft : Array Edge} {i : TypeInfo} {b off len cap : Nat} {k : IntKind}
    (ht : P.underlying t = some (.slice elem)) (hi : P.info? elem = some i) (sz : Nat) (hsz : i.size = sz) (hx : a.eval x = .slice (some ⟨b, off, none⟩) len cap) (l : Nat) (hlo : a.eval lo = .int k l) (hl : l ≤ len) (so : Nat) (hso : so = if cap = l then off else off + l * sz)
    (h : wpList P ops Q rest (a.put dst (.slice (some ⟨b, so, none⟩) (len - l) (cap - l))) w) : wpList P ops Q (⟨dst, .slice t x (some lo) none none, ty, pos, aft, none⟩ :: rest) a w := by
  subst hsz
  exact wpList_run rfl (run_slice_any ht hi hx l hlo hl so hso) h

theorem st_slice_lo {P : Program} {ops : Array Oper} {Q : Act → Prop} {a : Act} {w : World} {rest : List Oper} {dst : Option Tmp} {t ty elem : TypeId} {x lo : Operand} {pos : String} {aft : Array Edge} {i : TypeInfo} {b off len cap : Nat} {k : IntKind}
    (ht : P.underlying t = some (.slice elem)) (hi : P.info? elem = some i) (sz : Nat) (hsz : i.size = sz) (hx : a.eval x = .slice (some ⟨b, off, none⟩) len cap) (l : Nat) (hlo : a.eval lo = .int k l) (hl : l ≤ len) (hc : l < cap)
    (h : wpStill P ops w Q rest (a.put dst (.slice (some ⟨b, off + l * sz, none⟩) (len - l) (cap - l)))) : wpStill P ops w Q (⟨dst, .slice t x (some lo) none none, ty, pos, aft, none⟩ :: rest) a := by
  subst hsz
  exact wpStill_run rfl (run_slice_lo ht hi hx l hlo hl hc) h

theorem aw_slice_lo {P : Program} {ops : Array Oper} {Q : Exit → Act → World → Prop} {a : Act} {w : World} {rest : List Oper} {dst : Option Tmp} {t ty elem : TypeId} {x lo : Operand} {pos : String} {aft : Array Edge} {i : TypeInfo} {b off len cap : Nat} {k : IntKind}
    (ht : P.underlying t = some (.slice elem)) (hi : P.info? elem = some i) (sz : Nat) (hsz : i.size = sz) (hx : a.eval x = .slice (some ⟨b, off, none⟩) len cap) (l : Nat) (hlo : a.eval lo = .int k l) (hl : l ≤ len) (hc : l < cap)
    (h : wpList P ops Q rest (a.put dst (.slice (some ⟨b, off + l * sz, none⟩) (len - l) (cap - l))) w) : wpList P ops Q (⟨dst, .slice t x (some lo) none none, ty, pos, aft, none⟩ :: rest) a w := by
  subst hsz
  exact wpList_run rfl (run_slice_lo ht hi hx l hlo hl hc) h

theorem st_load {P : Program} {ops : Array Oper} {Q : Act → Prop} {a : Act} {w : World} {rest : List Oper} {dst : Option Tmp} {ty : TypeId} {pos : String} {aft : Array Edge} {t : TypeId} {x : Operand} {b off n : Nat} {L M : List Value} {e : TypeId}
    (ht : aggSize P t n) (hx : a.eval x = .pointer (some ⟨b, off, none⟩)) (hb : Blk w b L e) (hl : off + n ≤ L.length) (hM : (L.drop off).take n = M)
    (h : wpStill P ops w Q rest (a.put dst (.agg M.toArray))) : wpStill P ops w Q (⟨dst, .load t x, ty, pos, aft, none⟩ :: rest) a := by
  subst hM
  exact wpStill_run rfl (run_load_agg ht hx hb hl) h

end Go.Proofs.Ytnlcmgdeohbmoaa

/-
  The run of operations that build values of many cells.
-/
namespace Go.Proofs.Ytnlcmgdeohbmoaa
open Go.RowKit
set_option linter.unusedSimpArgs false
set_option linter.unusedVariables false
set_option maxRecDepth 100000

theorem foldl_set (off : Nat) : ∀ (vs : List Value) (k : Nat) (cs : Array Value), off + k + vs.length ≤ cs.size →
    (vs.zipIdx k).foldl (fun (cs : Array Value) (p : Value × Nat) => cs.setIfInBounds (off + p.2) p.1) cs = (cs.toList.take (off + k) ++ vs ++ cs.toList.drop (off + k + vs.length)).toArray
  | [], k, cs, _ => by simp
  | v :: rest, k, cs, h => by
    simp only [List.zipIdx_cons, List.foldl_cons]
    rw [foldl_set off rest (k + 1) _ (by simp only [List.length_cons] at h; simp; omega)]
    have := list_seg_step cs.toList (off + k) v rest (by simp only [List.length_cons] at h; simpa using (by omega : off + k + (rest.length + 1) ≤ cs.size))
    simp only [Array.toList_setIfInBounds, List.length_cons]
    rw [show off + (k + 1) = off + k + 1 by omega]
    rw [this]

theorem fill_one (place : Nat → Option (Nat × Nat)) (cells : Array Value) (i : Nat) (v : Value) (rest : List (Nat × Value)) (off : Nat) (M : List Value) (hv : v.cells = M.toArray) (hp : place i = some (off, M.length)) (hfit : off + M.length ≤ cells.size) :
    Instr.fill place cells ((i, v) :: rest) = Instr.fill place (put cells.toList off M).toArray rest := by
  have hf := foldl_set off M 0 cells (by omega)
  have hz : v.cells.zipIdx.foldl (fun cs (c, j) => cs.setIfInBounds (off + j) c) cells = (put cells.toList off M).toArray := by
    rw [hv, ← Array.foldl_toList, Array.toList_zipIdx]
    simp only [List.toList_toArray]
    rw [hf]
    simp [put]
  have h1 : ¬ (v.cells.size ≠ M.length) := by rw [hv]; simp
  have h2 : ¬ (off + v.cells.size > cells.size) := by rw [hv]; simp; omega
  rw [Instr.fill]
  simp only [hp, h1, h2, decide_false, Bool.or_self, Bool.false_eq_true, if_false]
  rw [hz]

theorem fill_nil (place : Nat → Option (Nat × Nat)) (cells : Array Value) : Instr.fill place cells [] = some cells := by rw [Instr.fill]

theorem run_buildSlice_one {P : Program} {ρ : Operand → Value} {w : World} {dst : Option Tmp} {t ty e : TypeId} {x : Operand} {pos : String} {aft : Array Edge} {gd : Option (Nat × Bool)} {i : TypeInfo} {z : Value} {M : List Value}
    (ht : P.underlying t = some (.slice e)) (hi : P.info? e = some i) (hz : i.zero = some z) (hsz : i.size = M.length) (hpos : 0 < M.length) (hbig : M.length ≤ 16777216) (hx : ρ x = .agg M.toArray ∨ (∃ v, ρ x = v ∧ v.cells = M.toArray)) :
    (execOp ρ ⟨dst, .buildSlice t 1 #[(0, x)], ty, pos, aft, gd⟩).run P w = .ok (.value (.slice (some ⟨w.heap.size, 0, none⟩) 1 1)) (w.alloc (.cells M.toArray e)) := by
  obtain ⟨v, hv, hc⟩ : ∃ v, ρ x = v ∧ v.cells = M.toArray := by
    rcases hx with h | h
    · exact ⟨_, h, rfl⟩
    · exact h
  have h0 : ¬ (M.length = 0) := by omega
  have hf := fill_one (fun i => some (i * M.length, M.length)) ((Array.range M.length).map (z.cells[· % z.cells.size]!)) 0 v [] 0 M hc (by simp) (by simp)
  rw [fill_nil, put_whole _ _ (by simp)] at hf
  have hb : ¬ (16777216 < M.length) := by omega
  simp [execOp, Instr.buildSlice, run_underlying ht, sizeOf, typeInfo, hi, hsz, hb, h0, zeroValue, hz, hv, hf, newRow]

theorem run_build_two {P : Program} {ρ : Operand → Value} {w : World} {dst : Option Tmp} {t ty : TypeId} {x y : Operand} {pos : String} {aft : Array Edge} {gd : Option (Nat × Bool)} {i : TypeInfo} {z : Value} {fields : Array Field} {o1 s1 o2 s2 : Nat} {M1 M2 : List Value} {v1 v2 : Value}
    (hi : P.info? t = some i) (hz : i.zero = some z) (hu : P.underlying t = some (.struct fields)) (hp : fields.toList.mapM (fun f => (P.info? f.type).map fun i => (f.offset, i.size)) = some [(o1, s1), (o2, s2)])
    (hx : ρ x = v1) (hy : ρ y = v2) (h1 : v1.cells = M1.toArray) (h2 : v2.cells = M2.toArray) (hs1 : s1 = M1.length) (hs2 : s2 = M2.length) (hf1 : o1 + M1.length ≤ z.cells.size) (hf2 : o2 + M2.length ≤ z.cells.size) :
    (execOp ρ ⟨dst, .build t #[(0, x), (1, y)], ty, pos, aft, gd⟩).run P w = .ok (.value (.agg (put (put z.cells.toList o1 M1) o2 M2).toArray)) w := by
  subst hs1 hs2
  have hb : P.built t [(0, v1), (1, v2)] = some (put (put z.cells.toList o1 M1) o2 M2).toArray := by
    simp only [Program.built, hi, hu, hz, hp]
    rw [fill_one _ _ 0 v1 _ o1 M1 h1 (by simp) hf1, fill_one _ _ 1 v2 _ o2 M2 h2 (by simp) (by simp only [List.size_toArray]; rw [length_put _ _ _ (by simpa using hf1)]; simpa using hf2), fill_nil]
  have hr := run_build (P := P) w t #[(0, v1), (1, v2)] _ (by simpa using hb)
  simp [execOp, hx, hy, hr]

theorem fill_ones : ∀ (M : List Value) (k : Nat) (pre post : List Value), (∀ v ∈ M, v.cells = #[v]) → pre.length = k → post.length = M.length →
    Instr.fill (fun i => some (i * 1, 1)) (pre ++ post).toArray ((M.zipIdx k).map fun p => (p.2, p.1)) = some (pre ++ M).toArray
  | [], k, pre, post, _, _, hp => by
    obtain rfl : post = [] := List.eq_nil_of_length_eq_zero hp
    simp [fill_nil]
  | v :: M, k, pre, post, hM, hk, hp => by
    match post, hp with
    | z :: post, hp =>
      have hc := hM v (by simp)
      simp only [List.zipIdx_cons, List.map_cons]
      rw [fill_one _ _ k v _ k [v] (by rw [hc]) (by simp) (by simp; omega)]
      have e : put (pre ++ z :: post).toArray.toList k [v] = (pre ++ [v]) ++ post := by
        simp [put, ← hk]
      rw [e, fill_ones M (k + 1) (pre ++ [v]) post (fun u hu => hM u (by simp [hu])) (by simp [hk]) (by simpa using hp)]
      simp

/-- A slice of values of one cell each is built. -/
theorem run_bs1 {P : Program} {ρ : Operand → Value} {w : World} {dst : Option Tmp} {t ty e : TypeId} {es : Array (Nat × Operand)} {pos : String} {aft : Array Edge} {gd : Option (Nat × Bool)} {i : TypeInfo} {z : Value} {n : Nat}
    (ht : P.underlying t = some (.slice e)) (hi : P.info? e = some i) (hz : i.zero = some z) (hsz : i.size = 1) (M : List Value) (hn : n = M.length) (hbig : M.length ≤ 16777216) (h1 : ∀ v ∈ M, v.cells = #[v])
    (hes : es.toList.map (fun p => (p.1, ρ p.2)) = (M.zipIdx 0).map fun p => (p.2, p.1)) :
    (execOp ρ ⟨dst, .buildSlice t n es, ty, pos, aft, gd⟩).run P w = .ok (.value (.slice (some ⟨w.heap.size, 0, none⟩) n n)) (w.alloc (.cells M.toArray e)) := by
  subst hn
  have hb : ¬ (16777216 < M.length) := by omega
  have hes' : (es.map fun p => (p.1, ρ p.2)).toList = (M.zipIdx 0).map fun p => (p.2, p.1) := by simpa using hes
  by_cases h0 : M.length = 0
  · obtain rfl : M = [] := List.eq_nil_of_length_eq_zero h0
    have h2 : es = #[] := by simpa using hes
    subst h2
    simp [execOp, Instr.buildSlice, run_underlying ht, sizeOf, typeInfo, hi, hsz, fill_nil, newRow]
    rw [show Array.range 0 = #[] by simp [Array.range]]
    simp
  · have hf := fill_ones M 0 [] ((Array.range M.length).map (z.cells[· % z.cells.size]!)).toList h1 rfl (by simp)
    rw [← hes'] at hf
    simp only [List.nil_append, Array.toArray_toList] at hf
    simp only [execOp]
    simp [Instr.buildSlice, run_underlying ht, sizeOf, typeInfo, hi, hsz, hb, h0, zeroValue, hz, newRow]
    simp at hf
    rw [hf]
    simp

/-- Where the slice lies behind an append: where it lay, or in a new block. -/
theorem append_block {P : Program} (w : World) (base : Nat) (t ty e : TypeId) (i : TypeInfo) (z : Value) (size bytes : Nat) (ht : P.underlying t = some (.slice e)) (hi : P.info? e = some i) (hz : i.zero = some z)
    (hsize : i.size = size) (hby : i.bytes = bytes) (v : Value) (n : Nat) (xs : List Value) (hown : w.ownsRow base e size v n xs)
    (a : Addr) (m c : Nat) (news : List Value) (hl : news.length = m * size) (hm : 0 < m) (hnews : ∀ j u, news[j]? = some u → w.cell? (a.add j) = some u) (h1 : ∀ u ∈ news, u.oneCell' = true)
    (h63 : n + m ≤ maxLen) (hbytes : (n + m) * bytes ≤ 140737488355328) {v' : Value} {w' : World} (hr : (Builtin.append_ #[t, t] ty #[v, .slice (some a) m c]).run P w = .ok v' w') :
    ∀ k, v'.ownBlock = some k → v.ownBlock = some k ∨ w.heap.size ≤ k := by
  subst hsize
  subst hby
  intro k hk
  have hsmall : n + m ≤ 9223372036854775807 := by simp only [maxLen] at h63; omega
  rcases hown.2 with ⟨rfl, rfl⟩ | ⟨g, cap, cur, rfl, hbg, hg, hnc, hcm, hcs, htake⟩
  · have h2 := run_append_nil (P := P) w t ty e i z ht hi hz a m c news hl hnews hm (by omega) (by have hb := hbytes; simp only [Nat.zero_add] at hb; omega)
    rw [h2] at hr
    cases hr
    simp [Value.ownBlock] at hk
    exact .inr (by omega)
  · by_cases hroom : n + m ≤ cap
    · have hfit : n * i.size + news.length ≤ cur.size := by rw [hl, hcs, ← Nat.add_mul]; exact Nat.mul_le_mul_right _ hroom
      have h2 := run_append_room (P := P) w t ty e i ht hi g n cap cur hg a m c news hl hnews h1 hroom hfit
      rw [h2] at hr
      cases hr
      exact .inl hk
    · have h2 := run_append_grow (P := P) w t ty e i z ht hi hz ⟨g, 0, none⟩ n cap xs hown.1 (hown.cells (g := g) rfl) a m c news hl hnews (by omega) (by omega) (growslice_fits (by omega) hbytes)
      rw [h2] at hr
      cases hr
      simp [Value.ownBlock] at hk
      exact .inr (by omega)

end Go.Proofs.Ytnlcmgdeohbmoaa
