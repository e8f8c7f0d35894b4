/-
  What DevLast asks of devices as data: the last of several writes of a sector.
-/
import Derived.Test.YtjepiaacaemkhaaEnds
namespace Go.Proofs.Ytjepiaacaemkhaa
open Go.RowKit Go.Shelf
set_option linter.unusedSimpArgs false
set_option linter.unusedVariables false

theorem laidTo_app (kf : Nat → Bool) (ws vs : List (Nat × List Value)) (st : List Value) : ∀ k, k ≤ ws.length → laidTo kf (ws ++ vs) st k = laidTo kf ws st k
  | 0, _ => rfl
  | k + 1, h => by
    have ih := laidTo_app kf ws vs st k (by omega)
    have hp : ws[k]? = some ws[k] := List.getElem?_eq_getElem (by omega)
    rw [laidTo_succ kf ws st k _ hp, laidTo_succ kf (ws ++ vs) st k ws[k] (by rw [List.getElem?_append_left (by omega)]; exact hp), ih]

theorem view_snoc (ws : List (Nat × List Value)) (p : Nat × List Value) (st : List Value) : view (ws ++ [p]) st (ws ++ [p]).length = put (view ws st ws.length) (64 * p.1) p.2 := by
  unfold view
  rw [List.length_append, List.length_singleton, laidTo_succ (fun _ => true) (ws ++ [p]) st ws.length p (by simp), laidTo_app _ _ _ _ _ (Nat.le_refl _)]
  rfl

/-- k writes of sector n, one after the other. -/
def stL (n : Nat) (Ls : Nat → List Value) : Nat → DS
  | 0 => DS.new 6
  | k + 1 => (stL n Ls k).written n (Ls k) 1
def lastL (Ls : Nat → List Value) : Nat → List Value
  | 0 => List.replicate 64 (.int .u8 0)
  | k + 1 => Ls k

theorem stL_ok (n : Nat) (Ls : Nat → List Value) : ∀ k, (stL n Ls k).off = false ∧ (stL n Ls k).left = -1 ∧ (stL n Ls k).calls = k ∧ (stL n Ls k).ws.length = k ∧ (stL n Ls k).st = List.replicate (6 * 64) (.int .u8 0)
  | 0 => ⟨rfl, rfl, rfl, rfl, rfl⟩
  | k + 1 => by
    obtain ⟨h1, h2, h3, h4, h5⟩ := stL_ok n Ls k
    have hs : (stL n Ls k).spent = { stL n Ls k with calls := (stL n Ls k).calls + 1 } := by
      unfold DS.spent
      rw [if_neg (by rw [h2]; decide), if_neg (by rw [h2]; decide)]
    refine ⟨?_, ?_, ?_, ?_, ?_⟩
    · show (stL n Ls k).spent.off = false
      rw [hs]; exact h1
    · show (stL n Ls k).spent.left = -1
      rw [hs]; exact h2
    · show (stL n Ls k).spent.calls = k + 1
      rw [hs]; show (stL n Ls k).calls + 1 = k + 1; rw [h3]
    · show ((stL n Ls k).ws ++ secs n (Ls k) 1).length = k + 1
      simp [secs, h4]
    · show (stL n Ls k).spent.st = _
      rw [hs]; exact h5

theorem stL_ws (n : Nat) (Ls : Nat → List Value) (k : Nat) : (stL n Ls (k + 1)).ws = (stL n Ls k).ws ++ [(n, sec (Ls k) 0)] := by
  show (stL n Ls k).ws ++ secs n (Ls k) 1 = _
  simp [secs]

theorem sec_whole' (A : List Value) (h : A.length = 64) : sec A 0 = A := by
  unfold sec; rw [Nat.mul_zero, List.drop_zero]; exact List.take_of_length_le (by omega)

theorem stL_view (n : Nat) (Ls : Nat → List Value) (hn : n < 6) (hLs : ∀ i, (Ls i).length = 64) : ∀ k, (stL n Ls k).view.length = 64 * 6 ∧ part (stL n Ls k).view n 1 = lastL Ls k
  | 0 => by
    refine ⟨?_, ?_⟩
    · show (List.replicate (6 * 64) (Value.int .u8 0)).length = 64 * 6
      rw [List.length_replicate]
    · show ((List.replicate (6 * 64) (Value.int .u8 0)).drop (64 * n)).take (64 * 1) = List.replicate 64 (.int .u8 0)
      rw [List.drop_replicate, List.take_replicate]
      have : min (64 * 1) (6 * 64 - 64 * n) = 64 := by omega
      rw [this]
  | k + 1 => by
    obtain ⟨h1, h2⟩ := stL_view n Ls hn hLs k
    have hv : (stL n Ls (k + 1)).view = put (stL n Ls k).view (64 * n) (Ls k) := by
      show view (stL n Ls (k + 1)).ws (stL n Ls (k + 1)).st (stL n Ls (k + 1)).ws.length = _
      rw [stL_ws, view_snoc, (stL_ok n Ls (k + 1)).2.2.2.2, sec_whole' _ (hLs k)]
      show put (view (stL n Ls k).ws _ (stL n Ls k).ws.length) _ _ = put (view (stL n Ls k).ws (stL n Ls k).st (stL n Ls k).ws.length) _ _
      rw [(stL_ok n Ls k).2.2.2.2]
    refine ⟨?_, ?_⟩
    · rw [hv, length_put _ _ _ (by rw [h1, hLs k]; omega)]; exact h1
    · rw [hv, part_put_in _ _ 6 n 1 n h1 (hLs k) (by omega) (Nat.le_refl _) (by omega), Nat.sub_self, Nat.mul_zero]
      exact put_whole _ _ (by rw [part_length _ 6 n 1 h1 (by omega), hLs k])

theorem stL_flushed (n : Nat) (Ls : Nat → List Value) (k : Nat) : (stL n Ls k).flushed.st = (stL n Ls k).view ∧ (stL n Ls k).flushed.ws = [] ∧ (stL n Ls k).flushed.calls = k + 1 ∧ (stL n Ls k).errF = 0 := by
  obtain ⟨h1, h2, h3, h4, h5⟩ := stL_ok n Ls k
  have hf : (stL n Ls k).flushed = { (stL n Ls k).spent with st := (stL n Ls k).view, ws := [] } := by
    unfold DS.flushed
    rw [if_neg (by rw [h1]; decide), if_neg (by rw [h2]; decide)]
  refine ⟨by rw [hf], by rw [hf], ?_, ?_⟩
  · rw [hf]
    show (stL n Ls k).spent.calls = k + 1
    unfold DS.spent
    rw [if_neg (by rw [h2]; decide)]
    show (stL n Ls k).calls + 1 = k + 1
    rw [h3]
  · unfold DS.errF DS.errS
    rw [if_neg (by rw [h1]; decide), if_neg (by rw [h2]; decide)]

/-- 'append([]byte{}, b...)': the bytes, in new memory. -/
theorem append_bytes (W : World) (g sb so cap : Nat) (M : List Value) (hg : Blk W g [] 5) (hc : Cells W sb so M) (hM : M.length = 64) (hMb : ∀ v ∈ M, isByte v) (ty : TypeId) :
    ∃ g' cap' cur W2, (Builtin.append_ #[28, 28] ty #[.slice (some ⟨g, 0, none⟩) 0 0, .slice (some ⟨sb, so, none⟩) 64 cap]).run Try.prog W = .ok (.slice (some ⟨g', 0, none⟩) 64 cap') W2 ∧ Blk W2 g' cur 5 ∧ cur.take 64 = M ∧ Kept (fun _ => False) W W2 ∧ W.heap.size ≤ g' ∧ 64 ≤ cap' ∧ cur.length = cap' := by
  obtain ⟨i5, hi5, hz5, hs5, hb5⟩ := info_parts Try.info5
  have h := run_append_grow (P := Try.prog) W 28 ty 5 i5 _ Try.underlying28 hi5 hz5 ⟨g, 0, none⟩ 0 0 [] (by simp) (by simp) ⟨sb, so, none⟩ 64 cap M (by rw [hs5, hM]) (fun j v hj => by rw [addr_add]; exact hc j v hj) (by decide) (by decide) (by
    rw [hb5]; exact growslice_fits (by decide) (by decide))
  have hge := grownCap_ge W (0 + 64) 0 5
  refine ⟨_, _, _, _, h, Blk.newA W.drew _ 5, ?_, ?_, Nat.le_refl _, hge, ?_⟩
  · simp [hM]
  · exact ((Kept.refl (fun _ => False) W).drew).trans (Kept.alloc _ W.drew _) (fun _ _ h => h)
  · simp only [Array.length_toList, Array.size_append, List.size_toArray, size_zeroCells, hM]
    simp [Value.cells]
    simp at hge
    omega

end Go.Proofs.Ytjepiaacaemkhaa
