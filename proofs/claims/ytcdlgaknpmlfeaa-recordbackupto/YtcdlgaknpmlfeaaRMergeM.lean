/-
  Putting writes in an order, and inserting them in a list that rises: the same.
-/
import Derived.Test.YtcdlgaknpmlfeaaRT
namespace Go.Proofs.Ytcdlgaknpmlfeaa
set_option linter.unusedSimpArgs false
set_option linter.unusedVariables false

def insV : List Wv → Wv → List Wv
  | [], w => [w]
  | x :: m, w => if w.blk < x.blk then w :: x :: m else if w.blk = x.blk then w :: m else x :: insV m w
theorem insV_wr : ∀ (m : List Wv) (x : Wv), (insV m x).map Wv.wr = insW (m.map Wv.wr) x.wr
  | [], x => rfl
  | y :: m, x => by
    simp only [insV, List.map_cons, insW]
    show List.map Wv.wr (if x.blk < y.blk then _ else _) = if x.blk < y.blk then _ else if x.blk = y.blk then _ else _
    split
    · rfl
    · split
      · rfl
      · rw [List.map_cons, insV_wr m x]
theorem putK_cons (a k : Int) (s v : Sl) (l : List EntB) : putK ltI ((a, s) :: l) k v = if a < k then (a, s) :: putK ltI l k v else if a = k then (k, v) :: l else (k, v) :: (a, s) :: l := by
  by_cases h : a < k
  · have hp : posK ltI ((a, s) :: l) k = posK ltI l k + 1 := by simp [posK, ltI, h]
    have hh : hasK ltI ((a, s) :: l) k = hasK ltI l k := by simp [hasK, hp]
    rw [if_pos h]
    unfold putK
    rw [hh, hp]
    split
    · rfl
    · simp [insK]
  · have hp : posK ltI ((a, s) :: l) k = 0 := by simp [posK, ltI, h]
    rw [if_neg h]
    by_cases he : a = k
    · have hh : hasK ltI ((a, s) :: l) k = true := by unfold hasK; rw [hp]; simp [ltI, he]
      unfold putK
      rw [hh, hp, if_pos rfl, if_pos he]
      rfl
    · have hh : hasK ltI ((a, s) :: l) k = false := by unfold hasK; rw [hp]; simp [ltI]; omega
      unfold putK
      rw [hh, hp, if_neg he]
      rfl
theorem insV_ent : ∀ (m : List Wv) (x : Wv), (insV m x).map Wv.ent = putK ltI (m.map Wv.ent) x.blk x.s
  | [], x => rfl
  | y :: m, x => by
    rw [List.map_cons]
    show List.map Wv.ent (insV (y :: m) x) = putK ltI ((y.blk, y.s) :: m.map Wv.ent) x.blk x.s
    rw [putK_cons, insV]
    by_cases h1 : x.blk < y.blk
    · rw [if_pos h1, if_neg (by omega), if_neg (by omega)]
      rfl
    · rw [if_neg h1]
      by_cases h2 : x.blk = y.blk
      · rw [if_pos h2, if_neg (by omega), if_pos h2.symm]
        rfl
      · rw [if_neg h2, if_pos (by omega), List.map_cons, insV_ent m x]
        rfl
theorem mem_insV {m : List Wv} {x y : Wv} (h : y ∈ insV m x) : y = x ∨ y ∈ m := by
  induction m with
  | nil => simp [insV] at h; exact .inl h
  | cons z m ih =>
    unfold insV at h
    split at h
    · simpa using h
    · split at h
      · rcases List.mem_cons.1 h with h | h
        · exact .inl h
        · exact .inr (List.mem_cons_of_mem _ h)
      · rcases List.mem_cons.1 h with h | h
        · exact .inr (by rw [h]; simp)
        · rcases ih h with h | h
          · exact .inl h
          · exact .inr (List.mem_cons_of_mem _ h)
/-- What is in the order behind all writes of a list. -/
def foldV (m : List Wv) (l : List Wv) : List Wv := l.foldl insV m
theorem foldV_wr : ∀ (l m : List Wv), (foldV m l).map Wv.wr = (l.map Wv.wr).foldl insW (m.map Wv.wr)
  | [], m => rfl
  | x :: l, m => by
    show (foldV (insV m x) l).map Wv.wr = _
    rw [foldV_wr l (insV m x), insV_wr]
    rfl
theorem foldV_len : ∀ (l m : List Wv), (foldV m l).length ≤ m.length + l.length
  | [], m => by simp [foldV]
  | x :: l, m => by
    have h := foldV_len l (insV m x)
    have h2 : (insV m x).length ≤ m.length + 1 := by
      have := (putK_length ltI (m.map Wv.ent) x.blk x.s).1
      rw [← insV_ent, List.length_map, List.length_map] at this
      exact this
    show (foldV (insV m x) l).length ≤ _
    simp only [List.length_cons]
    omega
end Go.Proofs.Ytcdlgaknpmlfeaa

/-
  Merge's first half: all writes are put in an order.
-/
namespace Go.Proofs.Ytcdlgaknpmlfeaa
open Go.RowKit Go.Shelf
set_option linter.unusedSimpArgs false
set_option linter.unusedVariables false

/-- v is a slice that holds slices of writes. -/
def LsAt (w : World) (v : Value) (ls : List (Sl × List Wv)) : Prop := SrcV w v (ls.map fun x => x.1.v) ∧ (∀ x ∈ ls, WsAt w x.1.v x.2) ∧ ls.length ≤ 9223372036854775807
theorem LsAt.kept {w w' : World} {v : Value} {ls : List (Sl × List Wv)} (h : LsAt w v ls) (hk : Kept (fun _ => False) w w') : LsAt w' v ls :=
  ⟨h.1.kept hk (fun _ _ h => h), fun x hx => (h.2.1 x hx).kept hk, h.2.2⟩
theorem LsAt.slice {w : World} {v : Value} {ls : List (Sl × List Wv)} (h : LsAt w v ls) : ∃ ao cap, v = .slice ao ls.length cap := by
  obtain ⟨⟨ao, cap, e, _⟩, _⟩ := h
  exact ⟨ao, cap, by rw [e, List.length_map]⟩
theorem LsAt.get {w : World} {ao : Option Addr} {n c : Nat} {ls : List (Sl × List Wv)} (h : LsAt w (.slice ao n c) ls) {k : Nat} (hk : k < ls.length) :
    ∃ g off, ao = some ⟨g, off, none⟩ ∧ w.cell? ⟨g, off + k, none⟩ = some (.slice ls[k].1.a ls[k].1.n ls[k].1.c) ∧ WsAt w ls[k].1.v ls[k].2 := by
  obtain ⟨⟨ao', cap, e, h2, h3, _⟩, h4, h5⟩ := h
  cases e
  obtain ⟨g, off, rfl, hc⟩ := h3 (by rw [List.length_map]; omega)
  refine ⟨g, off, rfl, hc k _ (by rw [List.getElem?_map, List.getElem?_eq_getElem hk]; rfl), h4 _ (List.getElem_mem hk)⟩
/-- An order that is new since w, with some writes in it. -/
def OrdAt (w : World) (W : World) (p : Nat) (m : List Wv) : Prop := Kept (fun _ => False) w W ∧ ∃ v, MapB W p v (m.map Wv.ent) ∧ ∀ k, footM p v k → w.heap.size ≤ k
theorem OrdAt.kept {w W W' : World} {p : Nat} {m : List Wv} (h : OrdAt w W p m) (hk : Kept (fun _ => False) W W') : OrdAt w W' p m := by
  obtain ⟨h1, v, h2, h3⟩ := h
  exact ⟨h1.trans hk (fun _ _ h => h), v, h2.kept hk (fun h => h) (fun _ _ h => h), h3⟩
theorem oput (w W : World) (p : Nat) (m : List Wv) (h : OrdAt w W p m) (x : Wv) (hl : m.length ≤ 1000000) :
    Calls Try.prog 39 #[.pointer (some ⟨p, 0, none⟩), .int .i64 x.blk, .slice x.s.a x.s.n x.s.c] W fun e w' => (∃ b : Bool, e = .returned (.bool b)) ∧ OrdAt w w' p (insV m x) := by
  obtain ⟨h1, v, h2, h3⟩ := h
  refine (put_atB W p v (m.map Wv.ent) x.blk x.s h2 (by rw [List.length_map]; exact hl)).mono ?_
  rintro e w' ⟨rfl, v', hm, hk, hf⟩
  rw [← insV_ent] at hm
  refine ⟨⟨_, rfl⟩, h1.trans hk (fun i hi hs => by have := h3 i hs; omega), v', hm, fun k hk' => ?_⟩
  rcases hf k hk' with h | h
  · exact h3 k h
  · have := h1.size; omega
end Go.Proofs.Ytcdlgaknpmlfeaa
