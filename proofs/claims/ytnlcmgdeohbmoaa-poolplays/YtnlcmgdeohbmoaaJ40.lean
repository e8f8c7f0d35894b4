/-
  The document's pool: Put.
-/
import Derived.Test.YtnlcmgdeohbmoaaPrNew
namespace Go.Proofs.Ytnlcmgdeohbmoaa
open Go.RowKit Go.Shelf
set_option linter.unusedSimpArgs false
set_option linter.unusedVariables false
set_option maxRecDepth 100000

def putsH (H : List (List Nat)) (ws : List Wr) : List (List Nat) := ws.foldl (fun H x => H.set x.blk.toNat x.B) H
def putsT (T : List Bool) (ws : List Wr) : List Bool := ws.foldl (fun T x => T.set x.blk.toNat true) T
def putHE (n : Nat) (H : List (List Nat)) (ws : List Wr) : List (List Nat) := if withE n ws = 0 then putsH H ws else H
def putTE (n : Nat) (T : List Bool) (ws : List Wr) : List Bool := if withE n ws = 0 then putsT T ws else T
theorem putsH_len : ∀ (ws : List Wr) (H : List (List Nat)), (putsH H ws).length = H.length
  | [], H => rfl
  | x :: ws, H => by
    show (putsH (H.set x.blk.toNat x.B) ws).length = _
    rw [putsH_len ws, List.length_set]
theorem putsT_len : ∀ (ws : List Wr) (T : List Bool), (putsT T ws).length = T.length
  | [], T => rfl
  | x :: ws, T => by
    show (putsT (T.set x.blk.toNat true) ws).length = _
    rw [putsT_len ws, List.length_set]
theorem putsH_take1 {H : List (List Nat)} {ws : List Wr} {k : Nat} (h : k < ws.length) : putsH H (ws.take (k + 1)) = (putsH H (ws.take k)).set ws[k].blk.toNat ws[k].B := by
  unfold putsH
  rw [List.take_succ_eq_append_getElem h, List.foldl_append]
  rfl
theorem putsT_take1 {T : List Bool} {ws : List Wr} {k : Nat} (h : k < ws.length) : putsT T (ws.take (k + 1)) = (putsT T (ws.take k)).set ws[k].blk.toNat true := by
  unfold putsT
  rw [List.take_succ_eq_append_getElem h, List.foldl_append]
  rfl
theorem RowB.src {w : World} {v : Value} {n N : Nat} {vs : List Value} {t : TypeId} (h : RowB w v n vs t N) : SrcV w v vs := by
  obtain ⟨g, cap, C, rfl, h2, h3, h4, h5, rfl, h7⟩ := h
  refine ⟨_, cap, rfl, h3, fun _ => ⟨g, 0, rfl, ?_⟩, fun h => by cases h⟩
  have := h2.cells 0 vs.length
  rw [List.drop_zero, List.take_left' rfl] at this
  exact this
theorem stop_bs0 {P : Program} {ops : Array Oper} {Q : Exit → Act → World → Prop} {a : Act} {w : World} {rest : List Oper} {dst : Option Tmp} {ty : TypeId} {pos : String} {aft : Array Edge} (t : TypeId) (h : Hid (wpList P ops Q (⟨dst, .buildSlice t 0 #[], ty, pos, aft, none⟩ :: rest) a w)) : wpList P ops Q (⟨dst, .buildSlice t 0 #[], ty, pos, aft, none⟩ :: rest) a w := h.out
/-- append([]T{}, v...) -/
theorem app0R {t e : TypeId} {i : TypeInfo} {z : Value} {bytes : Nat} (ht : Try.prog.underlying t = some (.slice e)) (hi : Try.prog.info? e = some i) (hz : i.zero = some z) (hs : i.size = 1) (hb : i.bytes = bytes) (hzc : z.cells.size = 1) (hby : bytes ≤ 1000)
    (w : World) (v : Value) (n N : Nat) (vs : List Value) (h : RowB w v n vs e N) (h1 : ∀ u ∈ vs, u.oneCell' = true) (hn : 1 ≤ n ∧ n ≤ 64) :
    ∃ v' w2, (Builtin.append_ #[t, t] t #[.slice (some ⟨w.heap.size, 0, none⟩) 0 0, v]).run Try.prog (w.alloc (.cells #[] e)) = .ok v' w2 ∧ RowB w2 v' n vs e w.heap.size ∧ Kept (fun _ => False) w w2 := by
  have hb1 := Blk.new w [] e
  have hk1 : Kept (fun _ => False) w (w.alloc (.cells ([] : List Value).toArray e)) := Kept.alloc _ _ _
  have hl : vs.length = n := by obtain ⟨_, _, _, _, _, _, _, _, hl, _⟩ := h; exact hl
  rw [show (#[] : Array Value) = ([] : List Value).toArray from rfl]
  generalize w.alloc (.cells ([] : List Value).toArray e) = w1 at hb1 hk1
  have ho : w1.ownsRow 0 e 1 (.slice (some ⟨w.heap.size, 0, none⟩) 0 0) 0 [] := ownsRow_of (xs := []) (C := []) hb1 rfl (Nat.le_refl _) (Nat.zero_le _) rfl
  obtain ⟨v', w2, hr, ho2, hk2, hv2⟩ := append_row (P := Try.prog) (ty := t) ht hi hz hs hb hzc hby ho ((h.kept hk1).src) h1 (by rw [hl]; omega)
  rw [Nat.zero_add, hl, List.nil_append] at ho2
  refine ⟨v', w2, hr, ?_, hk1.trans hk2 (fun i hi h => by simp [Value.ownBlock] at h; omega)⟩
  rcases ownsRow_blk ho2 with ⟨_, h0, _⟩ | ⟨g, cap, C, rfl, hbb, hnc, hcm, hC⟩
  · omega
  · refine ⟨g, cap, C, rfl, hbb, hnc, hcm, by omega, hl, ?_⟩
    rcases hv2 with h | h
    · have : g = w.heap.size := by simpa [Value.ownBlock] using h
      omega
    · have : g = w1.heap.size := by simpa [Value.ownBlock] using h
      have := hk1.size
      omega
theorem zeros_len (n : Nat) : (List.replicate (64 * n) 0).length = 64 * n := List.length_replicate
theorem zeros_lt (n : Nat) : ∀ x ∈ List.replicate (64 * n) 0, x < 256 := fun x hx => by rw [List.eq_of_mem_replicate hx]; decide
end Go.Proofs.Ytnlcmgdeohbmoaa
