/-
  Types of this seat; slices and writes in memory.
-/
import Derived.Test.YtnlcmgdeohbmoaaJ03
import Derived.Test.YtnlcmgdeohbmoaaJ05
import Derived.Test.YtnlcmgdeohbmoaaJ08
import Derived.DeepKeys
import Derived.Test.YtnlcmgdeohbmoaaJ07
import Derived.Lib.Overlaps
namespace Go.Proofs.Ytnlcmgdeohbmoaa
open Go.RowKit Go.Shelf
set_option linter.unusedSimpArgs false
set_option linter.unusedVariables false
set_option maxRecDepth 100000

theorem Try.info3 : (Try.prog.info? 3).map (fun i => (i.zero, i.size, i.bytes)) = some (some (.int .i64 0), 1, 8) := by kernel_rfl
theorem Try.info41 : (Try.prog.info? 41).map (fun i => (i.zero, i.size, i.bytes)) = some (some (.slice none 0 0), 1, 24) := by kernel_rfl
theorem Try.info49 : (Try.prog.info? 49).map (fun i => (i.zero, i.size, i.bytes)) = some (some (.slice none 0 0), 1, 24) := by kernel_rfl
theorem Try.info51 : (Try.prog.info? 51).map (fun i => (i.zero, i.size, i.bytes)) = some (some (.slice none 0 0), 1, 24) := by kernel_rfl
theorem Try.info68 : (Try.prog.info? 68).map (fun i => (i.zero, i.size, i.bytes)) = some (some (.agg #[.int .i64 0, .slice none 0 0]), 2, 32) := by kernel_rfl
theorem Try.agg68 : aggSize Try.prog 68 2 := by
  obtain ⟨i0, hi, _, hs, _⟩ := info_parts Try.info68
  exact ⟨⟨i0, hi, hs⟩, _, Try.underlying68, .inr ⟨_, rfl⟩⟩
theorem Try.info118 : (Try.prog.info? 118).map (fun i => (i.zero, i.size, i.bytes)) = some (some (.agg #[.slice none 0 0]), 1, 24) := by kernel_rfl
theorem Try.agg118 : aggSize Try.prog 118 1 := by
  obtain ⟨i0, hi, _, hs, _⟩ := info_parts Try.info118
  exact ⟨⟨i0, hi, hs⟩, _, Try.underlying118, .inr ⟨_, rfl⟩⟩
theorem Try.info119 : (Try.prog.info? 119).map (fun i => (i.zero, i.size, i.bytes)) = some (some (.agg (List.replicate 64 (.int .u8 0)).toArray), 64, 64) := by kernel_rfl
theorem Try.agg119 : aggSize Try.prog 119 64 := by
  obtain ⟨i0, hi, _, hs, _⟩ := info_parts Try.info119
  exact ⟨⟨i0, hi, hs⟩, _, Try.underlying119, .inl ⟨_, _, rfl⟩⟩
theorem Try.und62 : Try.prog.underlying 119 = some (.array 64 5) := by kernel_rfl

/-- A slice: where it lies, how long it is, how much room it has. -/
structure Sl where
  a : Option Addr
  n : Nat
  c : Nat
abbrev Sl.v (s : Sl) : Value := .slice s.a s.n s.c
abbrev ekB (k : Int) : Value := .int .i64 k
abbrev evB (v : Sl) : Value := .slice v.a v.n v.c
abbrev EntB := Int × Sl
theorem ownsRow_slice3 {w : World} {e : TypeId} {sz n : Nat} {v : Value} {xs : List Value} (h : w.ownsRow 0 e sz v n xs) : ∃ ao m c, v = .slice ao m c := by
  obtain ⟨ao, c, h⟩ := ownsRow_slice h
  exact ⟨ao, n, c, h⟩
theorem stop_app2 {P : Program} {ops : Array Oper} {Q : Exit → Act → World → Prop} {a : Act} {w : World} {rest : List Oper} {dst : Option Tmp} {ty : TypeId} {pos : String} {aft : Array Edge} {x y : Operand} (t u : TypeId) (h : Hid (wpList P ops Q (⟨dst, .call { callee := .builtin .append, args := #[x, y], argTypes := #[t, u] }, ty, pos, aft, none⟩ :: rest) a w)) : wpList P ops Q (⟨dst, .call { callee := .builtin .append, args := #[x, y], argTypes := #[t, u] }, ty, pos, aft, none⟩ :: rest) a w := h.out
/-- v is a slice that holds the entries l. -/
def SrcEB (W : World) (v : Value) (l : List EntB) : Prop := ∃ ao cap, v = .slice ao l.length cap ∧ l.length ≤ cap ∧ (0 < l.length → ∃ g off, ao = some ⟨g, off, none⟩ ∧ Cells W g off (encE ekB evB l))
theorem ownsRow_cells {w : World} {e : TypeId} {sz n : Nat} {v : Value} {xs : List Value} (h : w.ownsRow 0 e sz v n xs) {k : Nat} (hk : v.ownBlock = some k) : IsCells w k := by
  rcases h.2 with ⟨rfl, _⟩ | ⟨g, cap, cur, rfl, _, hg, _⟩
  · simp [Value.ownBlock] at hk
  · simp [Value.ownBlock] at hk
    subst hk
    exact ⟨_, _, _, hg⟩
theorem Blk.isCells {w : World} {b : Nat} {L : List Value} {t : TypeId} (h : Blk w b L t) : IsCells w b := ⟨_, _, _, h⟩
/-- A write in memory. -/
structure Wv where
  blk : Int
  s : Sl
  B : List Nat
def Wv.ent (x : Wv) : EntB := (x.blk, x.s)
def Wv.wr (x : Wv) : Wr := ⟨x.blk, x.B⟩
/-- v is a slice that holds the writes l. -/
def WsAt (w : World) (v : Value) (l : List Wv) : Prop := SrcEB w v (l.map Wv.ent) ∧ (∀ x ∈ l, Src w x.s.v x.B) ∧ l.length ≤ 9223372036854775807
theorem WsAt.nil (w : World) : WsAt w (.slice none 0 0) [] := ⟨⟨none, 0, rfl, by simp, fun h => absurd h (by simp)⟩, by simp, by simp⟩
theorem WsAt.kept {w w' : World} {v : Value} {l : List Wv} (h : WsAt w v l) (hk : Kept (fun _ => False) w w') : WsAt w' v l := by
  obtain ⟨⟨ao, cap, h1, h2, h3⟩, h4, h5⟩ := h
  refine ⟨⟨ao, cap, h1, h2, fun h0 => ?_⟩, fun x hx => (h4 x hx).kept hk, h5⟩
  obtain ⟨g, off, e, hc⟩ := h3 h0
  exact ⟨g, off, e, hk.cells hc (fun h => h)⟩
theorem WsAt.slice {w : World} {v : Value} {l : List Wv} (h : WsAt w v l) : ∃ ao cap, v = .slice ao l.length cap := by
  obtain ⟨⟨ao, cap, h1, _⟩, _⟩ := h
  exact ⟨ao, cap, by rw [h1, List.length_map]⟩
theorem WsAt.len {w : World} {ao : Option Addr} {n c : Nat} {l : List Wv} (h : WsAt w (.slice ao n c) l) : n = l.length := by
  obtain ⟨ao', cap, e⟩ := h.slice
  cases e
  rfl
theorem WsAt.get {w : World} {ao : Option Addr} {n c : Nat} {l : List Wv} (h : WsAt w (.slice ao n c) l) {k : Nat} (hk : k < l.length) :
    ∃ g off, ao = some ⟨g, off, none⟩ ∧ w.cell? ⟨g, off + k * 2, none⟩ = some (.int .i64 l[k].blk) ∧ w.cell? ⟨g, off + k * 2 + 1, none⟩ = some (.slice l[k].s.a l[k].s.n l[k].s.c) ∧ Src w l[k].s.v l[k].B ∧ l[k].s.n = l[k].B.length := by
  obtain ⟨⟨ao', cap, h1, h2, h3⟩, h4, h5⟩ := h
  cases h1
  obtain ⟨g, off, rfl, hc⟩ := h3 (by rw [List.length_map]; omega)
  have hk' : k < (l.map Wv.ent).length := by rw [List.length_map]; exact hk
  have hs := h4 l[k] (List.getElem_mem hk)
  have hn : l[k].s.n = l[k].B.length := by
    obtain ⟨bo, c, e, _⟩ := hs
    simp only [Sl.v, Value.slice.injEq] at e
    exact e.2.1
  have a := hc _ _ (encE_key (ek := ekB) (ev := evB) (l.map Wv.ent) k hk')
  have b := hc _ _ (encE_val (ek := ekB) (ev := evB) (l.map Wv.ent) k hk')
  rw [List.getElem_map] at a b
  exact ⟨g, off, rfl, a, b, hs, hn⟩
end Go.Proofs.Ytnlcmgdeohbmoaa

/-
  Entries of a key and a block of 64 bytes: their cells, the types of order over them.
-/
namespace Go.Proofs.Ytnlcmgdeohbmoaa
open Go.RowKit Go.Shelf
set_option linter.unusedSimpArgs false
set_option linter.unusedVariables false
set_option maxRecDepth 100000

/-- A block of 64 bytes. -/
structure Bk where
  B : List Nat
  len : B.length = 64
  lt : ∀ x ∈ B, x < 256
abbrev EntP := Int × Bk
/-- The cells of an entry. -/
def cellsP (e : EntP) : List Value := .int .i64 e.1 :: BV e.2.B
theorem cellsP_length (e : EntP) : (cellsP e).length = 65 := by simp [cellsP, BV_length, e.2.len]
theorem BVk_length (x : Bk) : (BV x.B).length = 64 := by rw [BV_length, x.len]
theorem cellsP_one (e : EntP) : ∀ u ∈ cellsP e, u.oneCell' = true := by
  intro u hu
  rcases List.mem_cons.1 hu with rfl | hu
  · rfl
  · exact BV_one _ u hu
def encP : List EntP → List Value
  | [] => []
  | e :: l => cellsP e ++ encP l
theorem encP_length : ∀ l : List EntP, (encP l).length = l.length * 65
  | [] => rfl
  | e :: l => by simp [encP, encP_length l, cellsP_length]; omega
theorem encP_append : ∀ a b : List EntP, encP (a ++ b) = encP a ++ encP b
  | [], b => rfl
  | e :: a, b => by simp [encP, encP_append a b]
theorem encP_take : ∀ (l : List EntP) (i : Nat), encP (l.take i) = (encP l).take (i * 65)
  | [], i => by simp [encP]
  | e :: l, 0 => by simp [encP]
  | e :: l, i + 1 => by
    have h := cellsP_length e
    rw [List.take_succ_cons, encP, encP, List.take_append, h, List.take_of_length_le (l := cellsP e) (by rw [h]; omega), encP_take l i, show (i + 1) * 65 - 65 = i * 65 by omega]
theorem encP_drop : ∀ (l : List EntP) (i : Nat), encP (l.drop i) = (encP l).drop (i * 65)
  | [], i => by simp [encP]
  | e :: l, 0 => by simp [encP]
  | e :: l, i + 1 => by
    have h := cellsP_length e
    rw [List.drop_succ_cons, encP, List.drop_append, h, List.drop_of_length_le (l := cellsP e) (by rw [h]; omega), encP_drop l i, show (i + 1) * 65 - 65 = i * 65 by omega, List.nil_append]
theorem encP_ent (l : List EntP) (i : Nat) (h : i < l.length) : ((encP l).drop (i * 65)).take 65 = cellsP l[i] := by
  rw [← encP_drop, List.drop_eq_getElem_cons h, encP, List.take_left' (cellsP_length _)]
theorem encP_key (l : List EntP) (i : Nat) (h : i < l.length) : (encP l)[i * 65]? = some (.int .i64 l[i].1) := by
  have h1 := congrArg (·[0]?) (encP_ent l i h)
  simpa [cellsP] using h1
theorem encP_val (l : List EntP) (i : Nat) (h : i < l.length) : ((encP l).drop (i * 65 + 1)).take 64 = BV l[i].2.B := by
  rw [← List.drop_drop, ← encP_drop, List.drop_eq_getElem_cons h, encP, cellsP, List.cons_append, List.drop_succ_cons, List.drop_zero, List.take_left' (BVk_length _)]
theorem encP_set : ∀ (l : List EntP) (i : Nat) (h : i < l.length) (v : Bk), encP (l.set i (l[i].1, v)) = put (encP l) (i * 65 + 1) (BV v.B)
  | e :: l, 0, h, v => by
    have h1 := BVk_length e.2
    have h2 := BVk_length v
    simp only [List.set_cons_zero, List.getElem_cons_zero, encP, cellsP, put, List.cons_append]
    rw [Nat.zero_mul, Nat.zero_add, List.take_succ_cons, List.take_zero, h2, List.drop_succ_cons, List.drop_left' h1]
    simp
  | e :: l, i + 1, h, v => by
    have h1 := cellsP_length e
    have h2 := BVk_length v
    simp only [List.set_cons_succ, List.getElem_cons_succ, encP]
    rw [encP_set l i (by simpa using h) v]
    unfold put
    rw [h2, List.take_append, h1, List.take_of_length_le (l := cellsP e) (by rw [h1]; omega), List.drop_append, h1, List.drop_of_length_le (l := cellsP e) (by rw [h1]; omega), List.nil_append, show (i + 1) * 65 + 1 - 65 = i * 65 + 1 by omega, show (i + 1) * 65 + 1 + 64 - 65 = i * 65 + 1 + 64 by omega]
    simp
theorem encP_one : ∀ (l : List EntP), ∀ u ∈ encP l, u.oneCell' = true
  | [], u, hu => by simp [encP] at hu
  | e :: l, u, hu => by
    rcases List.mem_append.1 hu with h | h
    · exact cellsP_one e u h
    · exact encP_one l u h

theorem Try.info109 : (Try.prog.info? 109).map (fun i => (i.zero, i.size, i.bytes)) = some (some (.agg (.int .i64 0 :: List.replicate 64 (.int .u8 0)).toArray), 65, 72) := by kernel_rfl
theorem Try.agg109 : aggSize Try.prog 109 65 := by
  obtain ⟨i0, hi, _, hs, _⟩ := info_parts Try.info109
  exact ⟨⟨i0, hi, hs⟩, _, Try.underlying109, .inr ⟨_, rfl⟩⟩
theorem Try.info79 : (Try.prog.info? 79).map (fun i => (i.zero, i.size, i.bytes)) = some (some (.agg (List.replicate 64 (.int .u8 0)).toArray), 64, 64) := by kernel_rfl
theorem Try.agg79 : aggSize Try.prog 79 64 := by
  obtain ⟨i0, hi, _, hs, _⟩ := info_parts Try.info79
  exact ⟨⟨i0, hi, hs⟩, _, Try.underlying79, .inl ⟨_, _, rfl⟩⟩
theorem Try.info112 : (Try.prog.info? 112).map (fun i => (i.zero, i.size, i.bytes)) = some (some (.agg #[.slice none 0 0]), 1, 24) := by kernel_rfl
theorem Try.agg112 : aggSize Try.prog 112 1 := by
  obtain ⟨i0, hi, _, hs, _⟩ := info_parts Try.info112
  exact ⟨⟨i0, hi, hs⟩, _, Try.underlying112, .inr ⟨_, rfl⟩⟩
/-- A slice of one's own that holds some entries. -/
def OwnP (w : World) (v : Value) (l : List EntP) : Prop := w.ownsRow 0 109 65 v l.length (encP l)
/-- An order lies at p: its slice is v, its entries are l. -/
structure MapP (w : World) (p : Nat) (v : Value) (l : List EntP) : Prop where
  blk : Blk w p [v] 112
  own : OwnP w v l
  srt : Sorted ltI l
theorem MapP.kept {S : Nat → Prop} {w w' : World} {p : Nat} {v : Value} {l : List EntP} (h : MapP w p v l) (hk : Kept S w w') (hp : ¬ S p) (hn : ∀ k, v.ownBlock = some k → ¬ S k) : MapP w' p v l := ⟨hk.blk h.blk hp, ownsRow_kept h.own hk hn, h.srt⟩
/-- The blocks of an order. -/
def footM (p : Nat) (v : Value) (k : Nat) : Prop := k = p ∨ v.ownBlock = some k
section
variable {P : Program} {ops : Array Oper} {Q : Exit → Act → World → Prop} {a : Act} {w : World} {rest : List Oper} {dst : Option Tmp} {ty : TypeId} {pos : String} {aft : Array Edge}
/-- A load of a whole struct under a guard that wants it. -/
theorem aw_loadG {g : Nat × Bool} {t : TypeId} {x : Operand} {b off n : Nat} {L M : List Value} {e : TypeId} (hg : Region.wanted ⟨dst, .load t x, ty, pos, aft, some g⟩ (yielded ops a.tmps) = true) (ht : aggSize P t n) (hx : a.eval x = .pointer (some ⟨b, off, none⟩)) (hb : Blk w b L e) (hl : off + n ≤ L.length) (hM : (L.drop off).take n = M)
    (h : wpList P ops Q rest (a.put dst (.agg M.toArray)) w) : wpList P ops Q (⟨dst, .load t x, ty, pos, aft, some g⟩ :: rest) a w := by
  subst hM
  exact wpList_step fun K hK => by rw [if_pos hg]; unfold Oper.wp; rw [run_load_agg ht hx hb hl]; exact hK _ _ h
end
end Go.Proofs.Ytnlcmgdeohbmoaa
