/-
  The document's answers for layer 5: First, Keep, Until.
-/
import Derived.Test.YtgeffdoepcbhiaaParts0
namespace Go.Proofs.Ytgeffdoepcbhiaa
open Go.RowKit Go.Shelf
set_option linter.unusedSimpArgs false
set_option linter.unusedVariables false
attribute [local go_sem] Oper.semAt_some

/-- out = append(out, x). -/
theorem aw_push {P : Program} {ops : Array Oper} {Q : Exit → Act → World → Prop} {a : Act} {w : World} {rest : List Oper} {d1 d2 : Nat} {t ty1 ty2 e : TypeId} {pos1 pos2 : String} {aft1 aft2 : Array Edge} {x y : Operand} {i : TypeInfo} {z : Value} {bytes : Nat} {v o : Value} {n : Nat} {xs : List Value}
    (ht : P.underlying t = some (.slice e)) (hi : P.info? e = some i) (hz : i.zero = some z) (hs : i.size = 1) (hb : i.bytes = bytes) (hzc : z.cells.size = 1) (hby : bytes ≤ 1000) (hx : a.eval x = v) (hv : v.cells = #[v]) (hv1 : v.oneCell' = true)
    (hy : (a.put (some d1) (.slice (some ⟨w.heap.size, 0, none⟩) 1 1)).eval y = o) (hd : (a.put (some d1) (.slice (some ⟨w.heap.size, 0, none⟩) 1 1)).eval (.tmp d1) = .slice (some ⟨w.heap.size, 0, none⟩) 1 1) (ho : w.ownsRow 0 e 1 o n xs) (hl : n + 1 ≤ 100000000)
    (h : ∀ o' w', w'.ownsRow 0 e 1 o' (n + 1) (xs ++ [v]) → Kept (fun k => o.ownBlock = some k) w w' → (∀ k, o'.ownBlock = some k → o.ownBlock = some k ∨ w.heap.size ≤ k) → wpList P ops Q rest ((a.put (some d1) (.slice (some ⟨w.heap.size, 0, none⟩) 1 1)).put (some d2) o') w') :
    wpList P ops Q (⟨some d1, .buildSlice t 1 #[(0, x)], ty1, pos1, aft1, none⟩ :: ⟨some d2, .call { callee := .builtin .append, args := #[y, .tmp d1], argTypes := #[t, t] }, ty2, pos2, aft2, none⟩ :: rest) a w := by
  refine wpList_run rfl (run_bs1 ht hi hz hs [v] rfl (by simp) (by simpa using hv) (by simp [hx])) ?_
  have hbA := Blk.new w [v] e
  have hkA : Kept (fun _ => False) w (w.alloc (.cells [v].toArray e)) := Kept.alloc _ _ _
  have hszA : (w.alloc (.cells [v].toArray e)).heap.size = w.heap.size + 1 := by simp
  generalize w.alloc (.cells [v].toArray e) = A1 at hbA hkA hszA
  obtain ⟨o', A2, hr, h2, h3, h5⟩ := append_row (P := P) (ty := ty2) (u := .slice (some ⟨w.heap.size, 0, none⟩) 1 1) (vs := [v]) ht hi hz hs hb hzc hby (ownsRow_kept ho hkA (fun _ _ h => h)) ⟨_, 1, rfl, by simp, fun _ => ⟨_, 0, rfl, by have := hbA.cells 0 1; simpa using this⟩, fun h => by cases h⟩ (by simpa using hv1) (by simp; omega)
  refine wpList_run rfl (r_app hy hd hr) ?_
  refine h o' A2 (by simpa using h2) ((hkA.mono (T := fun k => o.ownBlock = some k) (fun _ _ h => h.elim)).trans h3 (fun _ _ h => h)) (fun k hk => ?_)
  rcases h5 with h' | h'
  · rw [h'] at hk; exact .inl hk
  · rw [h'] at hk; cases hk; exact .inr (by omega)
theorem stop_bs1 {P : Program} {ops : Array Oper} {Q : Exit → Act → World → Prop} {a : Act} {w : World} {rest : List Oper} {dst : Option Tmp} {ty : TypeId} {pos : String} {aft : Array Edge} {x : Operand} (t : TypeId) (h : Hid (wpList P ops Q (⟨dst, .buildSlice t 1 #[(0, x)], ty, pos, aft, none⟩ :: rest) a w)) : wpList P ops Q (⟨dst, .buildSlice t 1 #[(0, x)], ty, pos, aft, none⟩ :: rest) a w := h.out

/-- An own slice in the making: what the document's functions gather. -/
def Gath (W wr : World) (o : Value) (ys : List I64) : Prop := wr.ownsRow 0 3 1 o ys.length (ys.map DI) ∧ (∀ b, o.ownBlock = some b → W.heap.size ≤ b) ∧ Kept (fun _ => False) W wr
theorem Gath.nil (W : World) : Gath W W (.slice none 0 0) [] := ⟨World.ownsRow_nil _ _ _ _, fun b h => by simp [Value.ownBlock] at h, Kept.refl _ _⟩
theorem Gath.push {W wr w' : World} {o o' : Value} {ys : List I64} {x : I64} (h : Gath W wr o ys) (h1 : w'.ownsRow 0 3 1 o' (ys.length + 1) (ys.map DI ++ [DI x])) (h2 : Kept (fun k => o.ownBlock = some k) wr w') (h3 : ∀ k, o'.ownBlock = some k → o.ownBlock = some k ∨ wr.heap.size ≤ k) : Gath W w' o' (ys ++ [x]) := by
  refine ⟨by simpa using h1, fun b hb => ?_, h.2.2.trans h2 (fun k hk h' => ?_)⟩
  · rcases h3 b hb with h' | h'
    · exact h.2.1 b h'
    · have := h.2.2.size; omega
  · have := h.2.1 k h'; omega

set_option maxRecDepth 100000 in
set_option maxHeartbeats 2000000 in
theorem rfirst_at (W : World) (v : Value) (xs : List I64) (n : Int) (hv : SrcV W v (xs.map DI)) (hl : xs.length ≤ 1000000) : Calls Try.prog 19 #[v, .int .i64 n] W fun e W' => ∃ o, e = .returned o ∧ Gath W W' o (xs.take n.toNat) := by
  obtain ⟨i3, hi3, hz3, hs3, hb3⟩ := info_parts Try.info3
  have Hi3 := hide hi3
  have Hz3 := hide hz3
  have Hs3 := hide hs3
  have Hb3 := hide hb3
  obtain ⟨ao, cap, rfl, hcap, hsrc, _⟩ := hv
  simp only [List.length_map] at hcap hsrc ⊢
  have HSrc := hide hsrc
  obtain ⟨len, hlen⟩ : ∃ len, len = xs.length := ⟨_, rfl⟩
  rw [← hlen] at hcap hl HSrc ⊢
  have Hlen := hide hlen
  clear hsrc hlen hi3 hz3 hs3 hb3
  go_enter Try.func19, Try.ntmps19
  go_wp2
  go_loopw [5, 10] (fun o i wr => ∃ (k : Nat) (oa : Option Addr) (on oc : Nat), o = .slice oa on oc ∧ i = .int .i64 k ∧ k ≤ len ∧ Hid (Gath W wr (.slice oa on oc) (xs.take (min k n.toNat)))) (fun _ i _ => len - (intOf i).toNat)
  case atStart => exact ⟨0, none, 0, 0, rfl, rfl, Nat.zero_le _, hide (by rw [Nat.zero_min]; exact Gath.nil W)⟩
  case round =>
    obtain ⟨k, oa, on, oc, rfl, rfl, hk, hG⟩ := hrel
    by_cases hlt : k < len
    · obtain ⟨g, off, rfl, hcs⟩ := HSrc.out (by omega)
      have hk2 : k < xs.length := by rw [← Hlen.out]; exact hlt
      have c0 : wr.cell? ⟨g, off + k, none⟩ = some (.int .i64 xs[k].1) := (hG.out.2.2.cells hcs (fun h => h)) k _ (by simp [hk2])
      obtain ⟨x, hx⟩ : ∃ x, x = xs[k] := ⟨_, rfl⟩
      rw [← hx] at c0
      have Hx := hide hx
      clear hx hcs
      by_cases hkn : (k : Int) < n
      · have Htk : Hid (xs.take (min (k + 1) n.toNat) = xs.take (min k n.toNat) ++ [x] ∧ (xs.take (min k n.toNat)).length = k) := hide ⟨by
          rw [Nat.min_eq_left (by omega), Nat.min_eq_left (by omega), Hx.out]
          exact List.take_succ_eq_append_getElem hk2, by rw [List.length_take]; omega⟩
        obtain ⟨ys, hys⟩ : ∃ ys, ys = xs.take (min k n.toNat) := ⟨_, rfl⟩
        rw [← hys] at hG Htk
        clear hys
        go_wp2_with (with_reducible refine stop_bs1 22 ?_)
        refine hide ?_
        refine aw_push (v := DI x) (o := .slice oa on oc) Try.underlying22 Hi3.out Hz3.out Hs3.out Hb3.out rfl (by decide) rfl rfl rfl rfl rfl hG.out.1 (by have := Htk.out.2; omega) ?_
        intro o' w' h1 h2 h3
        have HG' := hide (hG.out.push h1 h2 h3)
        obtain ⟨oa', oc', rfl⟩ := ownsRow_slice h1
        clear h1 h2 h3
        try simp only [put_lit, put_none, List.set_cons_succ, List.set_cons_zero]
        go_wp2
        go_roundw
        case rel => exact ⟨k + 1, _, _, _, rfl, by simp, by omega, by rw [Htk.out.1]; exact HG'⟩
        case measure => simp [intOf]; omega
      · have Htk : Hid (xs.take (min (k + 1) n.toNat) = xs.take (min k n.toNat)) := hide (by rw [Nat.min_eq_right (by omega), Nat.min_eq_right (by omega)])
        go_wp2
        go_roundw
        case rel => exact ⟨k + 1, _, _, _, rfl, by simp, by omega, by rw [Htk.out]; exact hG⟩
        case measure => simp [intOf]; omega
    · obtain rfl : k = len := by omega
      have Htk : Hid (xs.take (min k n.toNat) = xs.take n.toNat) := hide (by
        rcases Nat.le_total k n.toNat with h | h
        · rw [Nat.min_eq_left h, List.take_of_length_le (by rw [← Hlen.out]; exact Nat.le_refl _), List.take_of_length_le (by rw [← Hlen.out]; exact h)]
        · rw [Nat.min_eq_right h])
      go_wp2
      go_ret
      exact ⟨_, rfl, by rw [← Htk.out]; exact hG.out⟩
/-- Those below a bound. -/
def pB (b : Int) (x : I64) : Bool := decide (x.1 < b)
set_option maxRecDepth 100000 in
set_option maxHeartbeats 2000000 in
theorem rkeep_at (W : World) (v : Value) (xs : List I64) (b : Int) (hv : SrcV W v (xs.map DI)) (hl : xs.length ≤ 1000000) : Calls Try.prog 28 #[v, .int .i64 b, .bool true] W fun e W' => ∃ o, e = .returned o ∧ Gath W W' o (xs.filter (pB b)) := by
  obtain ⟨i3, hi3, hz3, hs3, hb3⟩ := info_parts Try.info3
  have Hi3 := hide hi3
  have Hz3 := hide hz3
  have Hs3 := hide hs3
  have Hb3 := hide hb3
  obtain ⟨ao, cap, rfl, hcap, hsrc, _⟩ := hv
  simp only [List.length_map] at hcap hsrc ⊢
  have HSrc := hide hsrc
  obtain ⟨len, hlen⟩ : ∃ len, len = xs.length := ⟨_, rfl⟩
  rw [← hlen] at hcap hl HSrc ⊢
  have Hlen := hide hlen
  clear hsrc hlen hi3 hz3 hs3 hb3
  go_enter Try.func28, Try.ntmps28
  go_wp2
  go_loopw [7, 12] (fun o i wr => ∃ (k : Nat) (oa : Option Addr) (on oc : Nat), o = .slice oa on oc ∧ i = .int .i64 k ∧ k ≤ len ∧ Hid (Gath W wr (.slice oa on oc) ((xs.take k).filter (pB b)))) (fun _ i _ => len - (intOf i).toNat)
  case atStart => exact ⟨0, none, 0, 0, rfl, rfl, Nat.zero_le _, hide (by simp; exact Gath.nil W)⟩
  case round =>
    obtain ⟨k, oa, on, oc, rfl, rfl, hk, hG⟩ := hrel
    by_cases hlt : k < len
    · obtain ⟨g, off, rfl, hcs⟩ := HSrc.out (by omega)
      have hk2 : k < xs.length := by rw [← Hlen.out]; exact hlt
      have c0 : wr.cell? ⟨g, off + k, none⟩ = some (.int .i64 xs[k].1) := (hG.out.2.2.cells hcs (fun h => h)) k _ (by simp [hk2])
      have Htk : Hid ((xs.take (k + 1)).filter (pB b) = (xs.take k).filter (pB b) ++ [xs[k]].filter (pB b) ∧ ((xs.take k).filter (pB b)).length ≤ k) := hide ⟨by
        rw [List.take_succ_eq_append_getElem hk2, List.filter_append], by
        have := List.length_filter_le (pB b) (xs.take k)
        rw [List.length_take] at this
        omega⟩
      obtain ⟨x, hx⟩ : ∃ x, x = xs[k] := ⟨_, rfl⟩
      rw [← hx] at c0 Htk
      clear hx hcs
      obtain ⟨ys, hys⟩ : ∃ ys, ys = (xs.take k).filter (pB b) := ⟨_, rfl⟩
      rw [← hys] at hG Htk
      clear hys
      by_cases hb : x.1 < b
      · have Hpx : Hid ([x].filter (pB b) = [x]) := hide (List.filter_cons_of_pos (by simpa [pB] using hb))
        go_wp2_with (with_reducible refine stop_bs1 22 ?_)
        refine hide ?_
        refine aw_push (v := DI x) (o := .slice oa on oc) Try.underlying22 Hi3.out Hz3.out Hs3.out Hb3.out rfl (by decide) rfl rfl rfl rfl rfl hG.out.1 (by have := Htk.out.2; omega) ?_
        intro o' w' h1 h2 h3
        have HG' := hide (hG.out.push h1 h2 h3)
        obtain ⟨oa', oc', rfl⟩ := ownsRow_slice h1
        clear h1 h2 h3
        try simp only [put_lit, put_none, List.set_cons_succ, List.set_cons_zero]
        go_wp2
        go_roundw
        case rel => exact ⟨k + 1, _, _, _, rfl, by simp, by omega, by rw [Htk.out.1, Hpx.out]; exact HG'⟩
        case measure => simp [intOf]; omega
      · have Hpx : Hid ([x].filter (pB b) = []) := hide (by rw [List.filter_cons_of_neg (by simpa [pB] using hb)]; rfl)
        go_wp2
        go_roundw
        case rel => exact ⟨k + 1, _, _, _, rfl, by simp, by omega, by rw [Htk.out.1, Hpx.out, List.append_nil]; exact hG⟩
        case measure => simp [intOf]; omega
    · obtain rfl : k = len := by omega
      have Htk : Hid (xs.take k = xs) := hide (List.take_of_length_le (by rw [← Hlen.out]; exact Nat.le_refl _))
      go_wp2
      go_ret
      exact ⟨_, rfl, by have := hG.out; rw [Htk.out] at this; exact this⟩

/-- Those ahead of the first one that is below a bound, and how many are asked for. -/
def Untl (b : Int) (xs ys : List I64) (asks : Nat) : Prop := (∃ x post, xs = ys ++ x :: post ∧ pB b x = true ∧ (∀ y ∈ ys, pB b y = false) ∧ asks = ys.length + 1) ∨ (xs = ys ∧ (∀ y ∈ ys, pB b y = false) ∧ asks = ys.length)
set_option maxRecDepth 100000 in
set_option maxHeartbeats 2000000 in
theorem runtil_at (W : World) (v : Value) (xs : List I64) (b : Int) (hv : SrcV W v (xs.map DI)) (hl : xs.length ≤ 1000000) : Calls Try.prog 21 #[v, .int .i64 b] W fun e W' => ∃ o asks ys, e = .returned (.tuple #[o, .int .i64 (asks : Nat)]) ∧ Untl b xs ys asks ∧ Gath W W' o ys := by
  obtain ⟨i3, hi3, hz3, hs3, hb3⟩ := info_parts Try.info3
  have Hi3 := hide hi3
  have Hz3 := hide hz3
  have Hs3 := hide hs3
  have Hb3 := hide hb3
  obtain ⟨ao, cap, rfl, hcap, hsrc, _⟩ := hv
  simp only [List.length_map] at hcap hsrc ⊢
  have HSrc := hide hsrc
  obtain ⟨len, hlen⟩ : ∃ len, len = xs.length := ⟨_, rfl⟩
  rw [← hlen] at hcap hl HSrc ⊢
  have Hlen := hide hlen
  clear hsrc hlen hi3 hz3 hs3 hb3
  go_enter Try.func21, Try.ntmps21
  go_wp2
  go_loopw [6, 11] (fun o i wr => ∃ (k : Nat) (oa : Option Addr) (on oc : Nat), o = .slice oa on oc ∧ i = .int .i64 k ∧ k ≤ len ∧ Hid (Gath W wr (.slice oa on oc) (xs.take k) ∧ ∀ y ∈ xs.take k, pB b y = false)) (fun _ i _ => len - (intOf i).toNat)
  case atStart => exact ⟨0, none, 0, 0, rfl, rfl, Nat.zero_le _, hide ⟨by simp; exact Gath.nil W, by simp⟩⟩
  case round =>
    obtain ⟨k, oa, on, oc, rfl, rfl, hk, hG⟩ := hrel
    by_cases hlt : k < len
    · obtain ⟨g, off, rfl, hcs⟩ := HSrc.out (by omega)
      have hk2 : k < xs.length := by rw [← Hlen.out]; exact hlt
      have c0 : wr.cell? ⟨g, off + k, none⟩ = some (.int .i64 xs[k].1) := (hG.out.1.2.2.cells hcs (fun h => h)) k _ (by simp [hk2])
      have Htk : Hid (xs.take (k + 1) = xs.take k ++ [xs[k]] ∧ (xs.take k).length = k ∧ xs = xs.take k ++ xs[k] :: xs.drop (k + 1)) := hide ⟨List.take_succ_eq_append_getElem hk2, by rw [List.length_take]; omega, by rw [List.getElem_cons_drop, List.take_append_drop]⟩
      obtain ⟨x, hx⟩ : ∃ x, x = xs[k] := ⟨_, rfl⟩
      rw [← hx] at c0 Htk
      clear hx hcs
      obtain ⟨ys, hys⟩ : ∃ ys, ys = xs.take k := ⟨_, rfl⟩
      rw [← hys] at hG Htk
      clear hys
      by_cases hb : x.1 < b
      · have Hun : Hid (Untl b xs ys (k + 1)) := hide (.inl ⟨x, _, Htk.out.2.2, by simpa [pB] using hb, hG.out.2, by rw [Htk.out.2.1]⟩)
        go_wp2
        go_ret2
        exact ⟨_, k + 1, ys, rfl, Hun.out, hG.out.1⟩
      · have Hpx : Hid (pB b x = false) := hide (by simpa [pB] using hb)
        go_wp2_with (with_reducible refine stop_bs1 22 ?_)
        refine hide ?_
        refine aw_push (v := DI x) (o := .slice oa on oc) Try.underlying22 Hi3.out Hz3.out Hs3.out Hb3.out rfl (by decide) rfl rfl rfl rfl rfl hG.out.1.1 (by have := Htk.out.2.1; omega) ?_
        intro o' w' h1 h2 h3
        have HG' := hide (hG.out.1.push h1 h2 h3)
        obtain ⟨oa', oc', rfl⟩ := ownsRow_slice h1
        clear h1 h2 h3
        try simp only [put_lit, put_none, List.set_cons_succ, List.set_cons_zero]
        go_wp2
        go_roundw
        case rel => exact ⟨k + 1, _, _, _, rfl, by simp, by omega, by
          rw [Htk.out.1]
          exact hide ⟨HG'.out, fun y hy => by
            rcases List.mem_append.1 hy with h | h
            · exact hG.out.2 y h
            · rw [List.mem_singleton.1 h]; exact Hpx.out⟩⟩
        case measure => simp [intOf]; omega
    · obtain rfl : k = len := by omega
      have Htk : Hid (xs.take k = xs) := hide (List.take_of_length_le (by rw [← Hlen.out]; exact Nat.le_refl _))
      go_wp2
      go_ret2
      exact ⟨_, k, xs, rfl, .inr ⟨rfl, by have := hG.out.2; rwa [Htk.out] at this, Hlen.out⟩, by have := hG.out.1; rwa [Htk.out] at this⟩
end Go.Proofs.Ytgeffdoepcbhiaa
