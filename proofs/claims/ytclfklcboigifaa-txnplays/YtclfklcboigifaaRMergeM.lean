/-
  Putting writes in an order, and inserting them in a list that rises: the same.
-/
import Derived.Test.YtclfklcboigifaaIterB
namespace Go.Proofs.Ytclfklcboigifaa
set_option linter.unusedSimpArgs false
set_option linter.unusedVariables false

def insV : List Wv → Wv → List Wv
  | [], w => [w]
  | x :: m, w => if w.blk < x.blk then w :: x :: m else if w.blk = x.blk then w :: m else x :: insV m w
theorem insV_wr : ∀ (m : List Wv) (x : Wv), (insV m x).map Wv.wr = insW (m.map Wv.wr) x.wr
  | [], x => rfl
  | y :: m, x => by
    simp only [insV, List.map_cons, insW]
    show List.map Wv.wr (if x.blk < y.blk then _ else _) = if x.blk < y.blk then _ else if x.blk = y.blk then _ else _
    split
    · rfl
    · split
      · rfl
      · rw [List.map_cons, insV_wr m x]
theorem putK_cons (a k : Int) (s v : Sl) (l : List EntB) : putK ltI ((a, s) :: l) k v = if a < k then (a, s) :: putK ltI l k v else if a = k then (k, v) :: l else (k, v) :: (a, s) :: l := by
  by_cases h : a < k
  · have hp : posK ltI ((a, s) :: l) k = posK ltI l k + 1 := by simp [posK, ltI, h]
    have hh : hasK ltI ((a, s) :: l) k = hasK ltI l k := by simp [hasK, hp]
    rw [if_pos h]
    unfold putK
    rw [hh, hp]
    split
    · rfl
    · simp [insK]
  · have hp : posK ltI ((a, s) :: l) k = 0 := by simp [posK, ltI, h]
    rw [if_neg h]
    by_cases he : a = k
    · have hh : hasK ltI ((a, s) :: l) k = true := by unfold hasK; rw [hp]; simp [ltI, he]
      unfold putK
      rw [hh, hp, if_pos rfl, if_pos he]
      rfl
    · have hh : hasK ltI ((a, s) :: l) k = false := by unfold hasK; rw [hp]; simp [ltI]; omega
      unfold putK
      rw [hh, hp, if_neg he]
      rfl
theorem insV_ent : ∀ (m : List Wv) (x : Wv), (insV m x).map Wv.ent = putK ltI (m.map Wv.ent) x.blk x.s
  | [], x => rfl
  | y :: m, x => by
    rw [List.map_cons]
    show List.map Wv.ent (insV (y :: m) x) = putK ltI ((y.blk, y.s) :: m.map Wv.ent) x.blk x.s
    rw [putK_cons, insV]
    by_cases h1 : x.blk < y.blk
    · rw [if_pos h1, if_neg (by omega), if_neg (by omega)]
      rfl
    · rw [if_neg h1]
      by_cases h2 : x.blk = y.blk
      · rw [if_pos h2, if_neg (by omega), if_pos h2.symm]
        rfl
      · rw [if_neg h2, if_pos (by omega), List.map_cons, insV_ent m x]
        rfl
theorem mem_insV {m : List Wv} {x y : Wv} (h : y ∈ insV m x) : y = x ∨ y ∈ m := by
  induction m with
  | nil => simp [insV] at h; exact .inl h
  | cons z m ih =>
    unfold insV at h
    split at h
    · simpa using h
    · split at h
      · rcases List.mem_cons.1 h with h | h
        · exact .inl h
        · exact .inr (List.mem_cons_of_mem _ h)
      · rcases List.mem_cons.1 h with h | h
        · exact .inr (by rw [h]; simp)
        · rcases ih h with h | h
          · exact .inl h
          · exact .inr (List.mem_cons_of_mem _ h)
/-- What is in the order behind all writes of a list. -/
def foldV (m : List Wv) (l : List Wv) : List Wv := l.foldl insV m
theorem foldV_wr : ∀ (l m : List Wv), (foldV m l).map Wv.wr = (l.map Wv.wr).foldl insW (m.map Wv.wr)
  | [], m => rfl
  | x :: l, m => by
    show (foldV (insV m x) l).map Wv.wr = _
    rw [foldV_wr l (insV m x), insV_wr]
    rfl
theorem foldV_len : ∀ (l m : List Wv), (foldV m l).length ≤ m.length + l.length
  | [], m => by simp [foldV]
  | x :: l, m => by
    have h := foldV_len l (insV m x)
    have h2 : (insV m x).length ≤ m.length + 1 := by
      have := (putK_length ltI (m.map Wv.ent) x.blk x.s).1
      rw [← insV_ent, List.length_map, List.length_map] at this
      exact this
    show (foldV (insV m x) l).length ≤ _
    simp only [List.length_cons]
    omega
end Go.Proofs.Ytclfklcboigifaa
