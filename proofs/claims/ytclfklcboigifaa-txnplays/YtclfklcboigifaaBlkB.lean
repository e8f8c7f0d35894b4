/-
  The run of operations that build values of many cells.
-/
import Derived.Test.YtclfklcboigifaaBlk
namespace Go.Proofs.Ytclfklcboigifaa
open Go.RowKit
set_option linter.unusedSimpArgs false
set_option linter.unusedVariables false
set_option maxRecDepth 100000

theorem foldl_set (off : Nat) : ∀ (vs : List Value) (k : Nat) (cs : Array Value), off + k + vs.length ≤ cs.size →
    (vs.zipIdx k).foldl (fun (cs : Array Value) (p : Value × Nat) => cs.setIfInBounds (off + p.2) p.1) cs = (cs.toList.take (off + k) ++ vs ++ cs.toList.drop (off + k + vs.length)).toArray
  | [], k, cs, _ => by simp
  | v :: rest, k, cs, h => by
    simp only [List.zipIdx_cons, List.foldl_cons]
    rw [foldl_set off rest (k + 1) _ (by simp only [List.length_cons] at h; simp; omega)]
    have := list_seg_step cs.toList (off + k) v rest (by simp only [List.length_cons] at h; simpa using (by omega : off + k + (rest.length + 1) ≤ cs.size))
    simp only [Array.toList_setIfInBounds, List.length_cons]
    rw [show off + (k + 1) = off + k + 1 by omega]
    rw [this]

theorem fill_one (place : Nat → Option (Nat × Nat)) (cells : Array Value) (i : Nat) (v : Value) (rest : List (Nat × Value)) (off : Nat) (M : List Value) (hv : v.cells = M.toArray) (hp : place i = some (off, M.length)) (hfit : off + M.length ≤ cells.size) :
    Instr.fill place cells ((i, v) :: rest) = Instr.fill place (put cells.toList off M).toArray rest := by
  have hf := foldl_set off M 0 cells (by omega)
  have hz : v.cells.zipIdx.foldl (fun cs (c, j) => cs.setIfInBounds (off + j) c) cells = (put cells.toList off M).toArray := by
    rw [hv, ← Array.foldl_toList, Array.toList_zipIdx]
    simp only [List.toList_toArray]
    rw [hf]
    simp [put]
  have h1 : ¬ (v.cells.size ≠ M.length) := by rw [hv]; simp
  have h2 : ¬ (off + v.cells.size > cells.size) := by rw [hv]; simp; omega
  rw [Instr.fill]
  simp only [hp, h1, h2, decide_false, Bool.or_self, Bool.false_eq_true, if_false]
  rw [hz]

theorem fill_nil (place : Nat → Option (Nat × Nat)) (cells : Array Value) : Instr.fill place cells [] = some cells := by rw [Instr.fill]

theorem run_buildSlice_one {P : Program} {ρ : Operand → Value} {w : World} {dst : Option Tmp} {t ty e : TypeId} {x : Operand} {pos : String} {aft : Array Edge} {gd : Option (Nat × Bool)} {i : TypeInfo} {z : Value} {M : List Value}
    (ht : P.underlying t = some (.slice e)) (hi : P.info? e = some i) (hz : i.zero = some z) (hsz : i.size = M.length) (hpos : 0 < M.length) (hbig : M.length ≤ 16777216) (hx : ρ x = .agg M.toArray ∨ (∃ v, ρ x = v ∧ v.cells = M.toArray)) :
    (execOp ρ ⟨dst, .buildSlice t 1 #[(0, x)], ty, pos, aft, gd⟩).run P w = .ok (.value (.slice (some ⟨w.heap.size, 0, none⟩) 1 1)) (w.alloc (.cells M.toArray e)) := by
  obtain ⟨v, hv, hc⟩ : ∃ v, ρ x = v ∧ v.cells = M.toArray := by
    rcases hx with h | h
    · exact ⟨_, h, rfl⟩
    · exact h
  have h0 : ¬ (M.length = 0) := by omega
  have hf := fill_one (fun i => some (i * M.length, M.length)) ((Array.range M.length).map (z.cells[· % z.cells.size]!)) 0 v [] 0 M hc (by simp) (by simp)
  rw [fill_nil, put_whole _ _ (by simp)] at hf
  have hb : ¬ (16777216 < M.length) := by omega
  simp [execOp, Instr.buildSlice, run_underlying ht, sizeOf, typeInfo, hi, hsz, hb, h0, zeroValue, hz, hv, hf, newRow]

theorem run_build_two {P : Program} {ρ : Operand → Value} {w : World} {dst : Option Tmp} {t ty : TypeId} {x y : Operand} {pos : String} {aft : Array Edge} {gd : Option (Nat × Bool)} {i : TypeInfo} {z : Value} {fields : Array Field} {o1 s1 o2 s2 : Nat} {M1 M2 : List Value} {v1 v2 : Value}
    (hi : P.info? t = some i) (hz : i.zero = some z) (hu : P.underlying t = some (.struct fields)) (hp : fields.toList.mapM (fun f => (P.info? f.type).map fun i => (f.offset, i.size)) = some [(o1, s1), (o2, s2)])
    (hx : ρ x = v1) (hy : ρ y = v2) (h1 : v1.cells = M1.toArray) (h2 : v2.cells = M2.toArray) (hs1 : s1 = M1.length) (hs2 : s2 = M2.length) (hf1 : o1 + M1.length ≤ z.cells.size) (hf2 : o2 + M2.length ≤ z.cells.size) :
    (execOp ρ ⟨dst, .build t #[(0, x), (1, y)], ty, pos, aft, gd⟩).run P w = .ok (.value (.agg (put (put z.cells.toList o1 M1) o2 M2).toArray)) w := by
  subst hs1 hs2
  have hb : P.built t [(0, v1), (1, v2)] = some (put (put z.cells.toList o1 M1) o2 M2).toArray := by
    simp only [Program.built, hi, hu, hz, hp]
    rw [fill_one _ _ 0 v1 _ o1 M1 h1 (by simp) hf1, fill_one _ _ 1 v2 _ o2 M2 h2 (by simp) (by simp only [List.size_toArray]; rw [length_put _ _ _ (by simpa using hf1)]; simpa using hf2), fill_nil]
  have hr := run_build (P := P) w t #[(0, v1), (1, v2)] _ (by simpa using hb)
  simp [execOp, hx, hy, hr]

theorem fill_ones : ∀ (M : List Value) (k : Nat) (pre post : List Value), (∀ v ∈ M, v.cells = #[v]) → pre.length = k → post.length = M.length →
    Instr.fill (fun i => some (i * 1, 1)) (pre ++ post).toArray ((M.zipIdx k).map fun p => (p.2, p.1)) = some (pre ++ M).toArray
  | [], k, pre, post, _, _, hp => by
    obtain rfl : post = [] := List.eq_nil_of_length_eq_zero hp
    simp [fill_nil]
  | v :: M, k, pre, post, hM, hk, hp => by
    match post, hp with
    | z :: post, hp =>
      have hc := hM v (by simp)
      simp only [List.zipIdx_cons, List.map_cons]
      rw [fill_one _ _ k v _ k [v] (by rw [hc]) (by simp) (by simp; omega)]
      have e : put (pre ++ z :: post).toArray.toList k [v] = (pre ++ [v]) ++ post := by
        simp [put, ← hk]
      rw [e, fill_ones M (k + 1) (pre ++ [v]) post (fun u hu => hM u (by simp [hu])) (by simp [hk]) (by simpa using hp)]
      simp

/-- A slice of values of one cell each is built. -/
theorem run_bs1 {P : Program} {ρ : Operand → Value} {w : World} {dst : Option Tmp} {t ty e : TypeId} {es : Array (Nat × Operand)} {pos : String} {aft : Array Edge} {gd : Option (Nat × Bool)} {i : TypeInfo} {z : Value} {n : Nat}
    (ht : P.underlying t = some (.slice e)) (hi : P.info? e = some i) (hz : i.zero = some z) (hsz : i.size = 1) (M : List Value) (hn : n = M.length) (hbig : M.length ≤ 16777216) (h1 : ∀ v ∈ M, v.cells = #[v])
    (hes : es.toList.map (fun p => (p.1, ρ p.2)) = (M.zipIdx 0).map fun p => (p.2, p.1)) :
    (execOp ρ ⟨dst, .buildSlice t n es, ty, pos, aft, gd⟩).run P w = .ok (.value (.slice (some ⟨w.heap.size, 0, none⟩) n n)) (w.alloc (.cells M.toArray e)) := by
  subst hn
  have hb : ¬ (16777216 < M.length) := by omega
  have hes' : (es.map fun p => (p.1, ρ p.2)).toList = (M.zipIdx 0).map fun p => (p.2, p.1) := by simpa using hes
  by_cases h0 : M.length = 0
  · obtain rfl : M = [] := List.eq_nil_of_length_eq_zero h0
    have h2 : es = #[] := by simpa using hes
    subst h2
    simp [execOp, Instr.buildSlice, run_underlying ht, sizeOf, typeInfo, hi, hsz, fill_nil, newRow]
    rw [show Array.range 0 = #[] by simp [Array.range]]
    simp
  · have hf := fill_ones M 0 [] ((Array.range M.length).map (z.cells[· % z.cells.size]!)).toList h1 rfl (by simp)
    rw [← hes'] at hf
    simp only [List.nil_append, Array.toArray_toList] at hf
    simp only [execOp]
    simp [Instr.buildSlice, run_underlying ht, sizeOf, typeInfo, hi, hsz, hb, h0, zeroValue, hz, newRow]
    simp at hf
    rw [hf]
    simp

/-- Where the slice lies behind an append: where it lay, or in a new block. -/
theorem append_block {P : Program} (w : World) (base : Nat) (t ty e : TypeId) (i : TypeInfo) (z : Value) (size bytes : Nat) (ht : P.underlying t = some (.slice e)) (hi : P.info? e = some i) (hz : i.zero = some z)
    (hsize : i.size = size) (hby : i.bytes = bytes) (v : Value) (n : Nat) (xs : List Value) (hown : w.ownsRow base e size v n xs)
    (a : Addr) (m c : Nat) (news : List Value) (hl : news.length = m * size) (hm : 0 < m) (hnews : ∀ j u, news[j]? = some u → w.cell? (a.add j) = some u) (h1 : ∀ u ∈ news, u.oneCell' = true)
    (h63 : n + m ≤ maxLen) (hbytes : (n + m) * bytes ≤ 140737488355328) {v' : Value} {w' : World} (hr : (Builtin.append_ #[t, t] ty #[v, .slice (some a) m c]).run P w = .ok v' w') :
    ∀ k, v'.ownBlock = some k → v.ownBlock = some k ∨ w.heap.size ≤ k := by
  subst hsize
  subst hby
  intro k hk
  have hsmall : n + m ≤ 9223372036854775807 := by simp only [maxLen] at h63; omega
  rcases hown.2 with ⟨rfl, rfl⟩ | ⟨g, cap, cur, rfl, hbg, hg, hnc, hcm, hcs, htake⟩
  · have h2 := run_append_nil (P := P) w t ty e i z ht hi hz a m c news hl hnews hm (by omega) (by have hb := hbytes; simp only [Nat.zero_add] at hb; omega)
    rw [h2] at hr
    cases hr
    simp [Value.ownBlock] at hk
    exact .inr (by omega)
  · by_cases hroom : n + m ≤ cap
    · have hfit : n * i.size + news.length ≤ cur.size := by rw [hl, hcs, ← Nat.add_mul]; exact Nat.mul_le_mul_right _ hroom
      have h2 := run_append_room (P := P) w t ty e i ht hi g n cap cur hg a m c news hl hnews h1 hroom hfit
      rw [h2] at hr
      cases hr
      exact .inl hk
    · have h2 := run_append_grow (P := P) w t ty e i z ht hi hz ⟨g, 0, none⟩ n cap xs hown.1 (hown.cells (g := g) rfl) a m c news hl hnews (by omega) (by omega) (growslice_fits (by omega) hbytes)
      rw [h2] at hr
      cases hr
      simp [Value.ownBlock] at hk
      exact .inr (by omega)

end Go.Proofs.Ytclfklcboigifaa
