/-
  FrameBack, walked: what is needed beside.
-/
import Derived.Test.YtjkggmjcaedggaaFrFirst
namespace Go.Proofs.Ytjkggmjcaedggaa
open Go.RowKit Go.Shelf
set_option linter.unusedSimpArgs false
set_option linter.unusedVariables false

theorem flat_set : ∀ (L : List (List Nat)) (i : Nat) (x : List Nat), i < L.length → (∀ y ∈ L, y.length = 64) → (L.set i x).flatten = L.flatten.take (64 * i) ++ x ++ L.flatten.drop (64 * i + 64)
  | y :: L, 0, x, _, h => by
    have hy := h y (by simp)
    simp only [List.set_cons_zero, List.flatten_cons, Nat.mul_zero, List.take_zero, List.nil_append, Nat.zero_add]
    rw [List.drop_left' hy]
  | y :: L, i + 1, x, hi, h => by
    have hy := h y (by simp)
    have ih := flat_set L i x (by simpa using hi) (fun z hz => h z (by simp [hz]))
    simp only [List.set_cons_succ, List.flatten_cons]
    have e1 : List.take (64 * (i + 1)) (y ++ L.flatten) = y ++ List.take (64 * i) L.flatten := by rw [List.take_append, List.take_of_length_le (by omega : y.length ≤ 64 * (i + 1)), show 64 * (i + 1) - y.length = 64 * i by omega]
    have e2 : List.drop (64 * (i + 1) + 64) (y ++ L.flatten) = List.drop (64 * i + 64) L.flatten := by rw [List.drop_append, List.drop_of_length_le (by omega : y.length ≤ 64 * (i + 1) + 64), List.nil_append, show 64 * (i + 1) + 64 - y.length = 64 * i + 64 by omega]
    rw [ih, e1, e2]
    simp only [List.append_assoc]
/-- One sector is of another epoch. -/
def epI (i j : Nat) : Int := if j = i then 4 else 3
theorem sectors_set {lsn : Int} {body : List Nat} {i : Nat} (hi : i < sectN body.length) : sectorsOf lsn (epI i) body = (sectorsOf lsn (fun _ => 3) body).set i (putN (frameAt lsn 4 body i)) := by
  apply List.ext_getElem
  · simp [sectorsOf]
  · intro j h1 h2
    rw [List.getElem_set]
    simp only [sectorsOf, List.getElem_map, List.getElem_range]
    split
    · rename_i h; subst h; simp [epI]
    · rename_i h; simp only [epI]; rw [if_neg (fun e => h e.symm)]
theorem copied {lsn : Int} {body : List Nat} {i : Nat} (hi : i < sectN body.length) : (sectorsOf lsn (epI i) body).flatten = (sectorsOf lsn (fun _ => 3) body).flatten.take (64 * i) ++ ((sectorsOf lsn (fun _ => 4) body).flatten.drop (64 * i)).take 64 ++ (sectorsOf lsn (fun _ => 3) body).flatten.drop (64 * i + 64) := by
  rw [sectors_set hi, flat_set _ _ _ (by rw [sectorsOf_length]; exact hi) sectorsOf_64, flat_at _ i (by rw [sectorsOf_length]; exact hi) sectorsOf_64]
  simp [sectorsOf]
theorem back_ok {lsn : Int} {body : List Nat} (h : LsnOk lsn body.length) (hB : ∀ x ∈ body, x < 256) (ep : Int) (hep : 0 ≤ ep ∧ ep ≤ 4294967295) : gRun (gStart lsn) (chunkN (sectorsOf lsn (fun _ => ep) body).flatten) = .inr (body, (sectN body.length : Nat), 0) := by
  rw [chunk_flat _ sectorsOf_64]
  rcases gather_spread (ep := fun _ => ep) h (fun _ => hep) hB with h | ⟨_, i, _, hi⟩
  · exact h.1
  · exact absurd rfl hi
theorem back_no {lsn : Int} {body : List Nat} (h : LsnOk lsn body.length) (hB : ∀ x ∈ body, x < 256) {i : Nat} (hi : i < sectN body.length) : decide ((gEnd (gRun (gStart lsn) (chunkN (sectorsOf lsn (epI i) body).flatten))).2.2 = 0) = decide (sectN body.length = 1) := by
  rw [chunk_flat _ sectorsOf_64]
  rcases gather_spread (ep := epI i) h (fun j => by unfold epI; split <;> decide) hB with ⟨h1, h2⟩ | ⟨h1, j, hj, hne⟩
  · have e : gRun (gStart lsn) (sectorsOf lsn (epI i) body) = _ := h1
    rw [e]
    have hc : sectN body.length = 1 := by
      rcases Nat.lt_or_ge 1 (sectN body.length) with hc | hc
      · exfalso
        have hall := fun k hk => (h2 k hk)
        have hi1 := hall i hi
        by_cases h0 : i = 0
        · have := hall 1 hc
          simp [epI, h0] at this
        · simp [epI, h0, Ne.symm h0] at hi1
      · omega
    simp [gEnd, hc]
  · have e : gRun (gStart lsn) (sectorsOf lsn (epI i) body) = _ := h1
    rw [e]
    have hc : sectN body.length ≠ 1 := fun hc => by
      obtain rfl : j = 0 := by omega
      exact hne rfl
    simp [gEnd, hc]
theorem sectors_lt {lsn : Int} {ep : Nat → Int} {body : List Nat} (hB : ∀ x ∈ body, x < 256) : ∀ x ∈ (sectorsOf lsn ep body).flatten, x < 256 := by
  intro x hx
  rw [List.mem_flatten] at hx
  obtain ⟨l, hl, hx⟩ := hx
  simp only [sectorsOf, List.mem_map] at hl
  obtain ⟨i, _, rfl⟩ := hl
  exact putN_lt _ (by simp [frameAt]; omega) (frameAt_B hB) x hx
theorem Own.blk {w : World} {base : Nat} {v : Value} {A : List Nat} (h : Own w base v A) (h0 : 0 < A.length) : ∃ g cap C, v = .slice (some ⟨g, 0, none⟩) A.length cap ∧ Blk w g (BV A ++ C) 5 ∧ A.length ≤ cap ∧ base ≤ g := by
  have hl := h.1.1
  rcases h.1.2 with ⟨_, h2⟩ | ⟨g, cap, cur, rfl, hb, hg, hnc, hcm, hcs, htake⟩
  · omega
  · refine ⟨g, cap, cur.toList.drop (A.length * 1), rfl, ?_, hnc, hb⟩
    have : BV A ++ cur.toList.drop (A.length * 1) = cur.toList := by rw [← htake]; exact List.take_append_drop _ _
    rw [this]
    unfold Blk
    simpa using hg
/-- A part of one slice is copied into another of one's own. -/
theorem run_copyS {w : World} {ty : TypeId} {g off dLen dCap sb so n sCap : Nat} {G : List Value} {M : List Nat} (hg : Blk w g G 5) (hc : Cells w sb so (BV M)) (hn : M.length = n) (hd : n ≤ dLen) (hG : off + n ≤ G.length) :
    (Builtin.copy_ #[22, 22] ty #[.slice (some ⟨g, off, none⟩) dLen dCap, .slice (some ⟨sb, so, none⟩) n sCap]).run Try.prog w = .ok (goInt n) (w.setRow g (put G off (BV M)).toArray) := by
  obtain ⟨i5, hi5, hz5, hs5, hb5⟩ := info_parts Try.info5
  have hm : n = Nat.min n dLen := by show n = min n dLen; omega
  have hlen : (BV M).length = n * i5.size := by rw [BV_length, hn, hs5]; omega
  have hl := run_firstCells_some (P := Try.prog) w i5.size n ⟨sb, so, none⟩ n sCap (BV M) hlen (fun j v hj => by rw [addr_add]; exact hc j v hj)
  have hst := run_storeCells_at Try.prog g off 5 (BV M) 0 G.toArray w hg (by simp [BV_length]; omega) (BV_one M)
  have hp : put G off (BV M) = G.take (off + 0) ++ BV M ++ G.drop (off + 0 + (BV M).length) := by
    unfold put; simp
  rw [hp]
  simp only at hst
  simp [Builtin.copy_, run_underlying Try.underlying22, Builtin.lenOf, sizeOf, typeInfo, hi5, ← hm, hl, hst]
end Go.Proofs.Ytjkggmjcaedggaa
