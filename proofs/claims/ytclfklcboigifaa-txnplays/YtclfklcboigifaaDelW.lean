/-
  slices.Delete of one entry, slices.Clone: over a slice of one's own.
-/
import Derived.Test.YtclfklcboigifaaInsW
import Derived.Lib.SliceRun
namespace Go.Proofs.Ytclfklcboigifaa
open Go.RowKit Go.Shelf
set_option linter.unusedSimpArgs false
set_option linter.unusedVariables false

theorem st_slice_any {P : Program} {ops : Array Oper} {Q : Act → Prop} {a : Act} {w : World} {rest : List Oper} {dst : Option Tmp} {t ty elem : TypeId} {x lo : Operand} {pos : String} {aft : Array Edge} {i : TypeInfo} {b off len cap : Nat} {k : IntKind}
    (ht : P.underlying t = some (.slice elem)) (hi : P.info? elem = some i) (sz : Nat) (hsz : i.size = sz) (hx : a.eval x = .slice (some ⟨b, off, none⟩) len cap) (l : Nat) (hlo : a.eval lo = .int k l) (hl : l ≤ len) (so : Nat) (hso : so = if cap = l then off else off + l * sz)
    (h : wpStill P ops w Q rest (a.put dst (.slice (some ⟨b, so, none⟩) (len - l) (cap - l)))) : wpStill P ops w Q (⟨dst, .slice t x (some lo) none none, ty, pos, aft, none⟩ :: rest) a := by
  subst hsz
  exact wpStill_run rfl (run_slice_any ht hi hx l hlo hl so hso) h
theorem stop_clear {P : Program} {ops : Array Oper} {Q : Exit → Act → World → Prop} {a : Act} {w : World} {rest : List Oper} {dst : Option Tmp} {ty : TypeId} {pos : String} {aft : Array Edge} {x : Operand} (t : TypeId) (h : Hid (wpList P ops Q (⟨dst, .call { callee := .builtin .clear, args := #[x], argTypes := #[t] }, ty, pos, aft, none⟩ :: rest) a w)) : wpList P ops Q (⟨dst, .call { callee := .builtin .clear, args := #[x], argTypes := #[t] }, ty, pos, aft, none⟩ :: rest) a w := h.out
/-- clear of one element of two cells. -/
theorem r_clear {P : Program} {ρ : Operand → Value} {w : World} {dst : Option Tmp} {ty t e : TypeId} {pos : String} {aft : Array Edge} {gd : Option (Nat × Bool)} {x : Operand} {g o c : Nat} {L : List Value} {inf : TypeInfo} {z0 z1 : Value} (hx : ρ x = .slice (some ⟨g, o, none⟩) 1 c) (hu : P.underlying t = some (.slice e)) (hi : P.info? e = some inf) (hz : inf.zero = some (.agg #[z0, z1])) (h0 : z0.oneCell' = true) (h1 : z1.oneCell' = true) (hb : Blk w g L e) (ho : o + 2 ≤ L.length) :
    (execOp ρ ⟨dst, .call { callee := .builtin .clear, args := #[x], argTypes := #[t] }, ty, pos, aft, gd⟩).run P w = .ok (.value (.tuple #[])) (w.setRow g (put L o [z0, z1]).toArray) := by
  have hst := run_storeCells_at (P := P) g o e [z0, z1] 0 L.toArray w hb (by simp; omega) (by simp [h0, h1])
  have hzc : (Builtin.zeroCells (Value.cells (.agg #[z0, z1])) 1).toList = [z0, z1] := by
    simp [Builtin.zeroCells, Value.cells, Array.range]
  have hp : put L o [z0, z1] = L.take (o + 0) ++ [z0, z1] ++ L.drop (o + 0 + 2) := rfl
  rw [hp]
  simp [execOp, resolve, invoke, builtin, hx, Builtin.clear_, run_underlying hu, zeroValue, typeInfo, hi, hz, hzc]
  simp at hst
  rw [hst]
  rfl
theorem rem_cellsW (l : List EntB) (i : Nat) : encE ekB evB (remK l i) = (encE ekB evB l).take (i * 2) ++ (encE ekB evB l).drop ((i + 1) * 2) := by
  unfold remK
  rw [encE_append, encE_take, encE_drop]

set_option maxRecDepth 100000 in
set_option maxHeartbeats 4000000 in
theorem del_atW (w : World) (v : Value) (l : List EntB) (i : Nat) (ho : OwnW w v l) (hi : i < l.length) (hl : l.length ≤ 1000000) :
    Calls Try.prog 38 #[v, .int .i64 (i : Nat), .int .i64 (i + 1 : Nat)] w fun e w' => ∃ v', e = .returned v' ∧ OwnW w' v' (remK l i) ∧ Kept (fun k => v.ownBlock = some k) w w' ∧ v'.ownBlock = v.ownBlock := by
  obtain ⟨i0, hi0, hz0, hs0, hb0⟩ := info_parts Try.info85
  rcases ownsRow_blk ho with ⟨_, h, _⟩ | ⟨g, cap, C, rfl, hb, hnc, hcm, hC⟩
  · omega
  have hlen := encE_length (ek := ekB) (ev := evB) l
  have hgw : g < w.heap.size := hb.lt
  obtain ⟨n, hn⟩ : ∃ n, n = l.length := ⟨_, rfl⟩
  obtain ⟨L, hL⟩ : ∃ L, L = encE ekB evB l := ⟨_, rfl⟩
  have hins := rem_cellsW l i
  have hinl := remK_length l i (by omega)
  rw [← hL] at hlen hb hins
  rw [← hn] at hl hi hlen hinl hC hnc ⊢
  have HB := hide hb
  have HI := hide hins
  have HIl := hide hinl
  have HLn := hide hlen
  have HC := hide hC
  have Hi0 := hide hi0
  have Hz0 := hide hz0
  have Hs0 := hide hs0
  have HLone : Hid (∀ u ∈ L, u.oneCell' = true) := hide (by rw [hL]; exact encOneW l)
  unfold maxLen at hcm
  have hii : ¬ (i : Int) = ((i + 1 : Nat) : Int) := by omega
  clear hb hins hinl hlen hi0 hz0 hs0 hb0 hL hn ho hC
  go_enter Try.func38, Try.ntmps38
  go_wp2
  refine region_tail 6 Try.mixed (by kernel_rfl) ?_
  intro w1 hk1 hz1
  have Hz1 := hide hz1
  clear hz1
  simp only [List.take_succ_cons, List.take_zero, List.drop_succ_cons, List.drop_zero]
  have hin : i ≤ n := by omega
  have hic : i ≤ cap := by omega
  still_step
  still_step
  still_step
  still_step
  still_step
  obtain ⟨so, hso⟩ : ∃ so, so = if cap = i + 1 then 0 else 0 + (i + 1) * 2 := ⟨_, rfl⟩
  refine st_slice_any (k := .i64) Try.underlying80 Hi0.out 2 Hs0.out rfl (i + 1) (by simp [Act.eval]) (by omega) so hso ?_
  refine wpStill_nil ?_
  have hb1 := hk1.blk HB.out (fun h => h)
  have hLn := HLn.out
  have hC := HC.out
  have hr := run_append_room (P := Try.prog) w1 80 80 85 i0 Try.underlying80 Hi0.out g i cap (L ++ C).toArray hb1 ⟨g, so, none⟩ (n - (i + 1)) (cap - (i + 1)) (L.drop ((i + 1) * 2)) (by rw [Hs0.out, List.length_drop]; omega) (fun j u hj => by
    have hj' := (List.getElem?_eq_some_iff.1 hj).1
    rw [List.length_drop] at hj'
    rw [addr_add, hb1.cell]
    rw [if_neg (by omega)] at hso
    rw [hso, Nat.zero_add]
    rw [List.getElem?_append_left (by omega)]
    rw [List.getElem?_drop] at hj
    exact hj) (fun u hu => HLone.out u (List.mem_of_mem_drop hu)) (by omega) (by rw [Hs0.out, List.length_drop]; simp; omega)
  rw [Hs0.out] at hr
  obtain ⟨W, hW⟩ : ∃ W, W = L.take (i * 2) ++ L.drop ((i + 1) * 2) := ⟨_, rfl⟩
  have hWl : W.length = (n - 1) * 2 := by rw [hW, List.length_append, List.length_take, List.length_drop]; omega
  obtain ⟨D, hD⟩ : ∃ D, D = (L ++ C).drop (i * 2 + (L.drop ((i + 1) * 2)).length) := ⟨_, rfl⟩
  have hDl : D.length = (cap - (n - 1)) * 2 := by rw [hD, List.length_drop, List.length_append, List.length_drop]; omega
  have hrow : (List.take (i * 2) (L ++ C).toArray.toList ++ L.drop ((i + 1) * 2) ++ List.drop (i * 2 + (L.drop ((i + 1) * 2)).length) (L ++ C).toArray.toList) = W ++ D := by
    rw [hW, hD]
    simp only [List.toList_toArray]
    rw [List.take_append_of_le_length (by omega)]
  rw [hrow, show i + (n - (i + 1)) = n - 1 by omega] at hr
  have hb2 := hb1.setRow (W ++ D)
  have hk2 : Kept (fun k => k = g) w1 (w1.setRow g (W ++ D).toArray) := Kept.setRow _ _ _ rfl
  refine wpList_run rfl (r_app rfl rfl hr) ?_
  generalize w1.setRow g (W ++ D).toArray = w2 at hb2 hk2
  have HB2 := hide hb2
  have HWl := hide hWl
  have HDl := hide hDl
  have HW := hide hW
  clear hr hrow hb1 hLn hC hb2 hWl hDl hW hD hso
  simp only [put_lit, List.set_cons_succ, List.set_cons_zero]
  obtain ⟨m, hm⟩ : ∃ m, n = m + 1 := ⟨n - 1, by omega⟩
  subst hm
  simp only [Nat.add_sub_cancel] at HWl HDl ⊢
  have hmc : ¬ cap = m := by omega
  have hmm : m ≤ m + 1 := by omega
  have hmc2 : m + 1 ≤ cap := hnc
  go_wp2_with (with_reducible refine stop_clear 80 ?_)
  refine hide ?_
  have hlW : m * 2 + 2 ≤ (W ++ D).length := by rw [List.length_append, HWl.out, HDl.out]; omega
  refine wpList_run rfl (r_clear (g := g) (o := m * 2) (c := cap - m) rfl Try.underlying80 Hi0.out Hz0.out rfl rfl HB2.out hlW) ?_
  have hb3 := HB2.out.setRow (put (W ++ D) (m * 2) [.int .i64 0, .slice none 0 0])
  have hk3 : Kept (fun k => k = g) w2 (w2.setRow g (put (W ++ D) (m * 2) [.int .i64 0, .slice none 0 0]).toArray) := Kept.setRow _ _ _ rfl
  generalize w2.setRow g (put (W ++ D) (m * 2) [.int .i64 0, .slice none 0 0]).toArray = w3 at hb3 hk3
  have HB3 := hide hb3
  clear hb3 hlW
  go_wp2
  go_ret
  refine ⟨_, rfl, ?_, ?_, rfl⟩
  · show OwnW w3 (.slice (some ⟨g, 0, none⟩) m cap) _
    have hb3 := HB3.out
    rw [put_mid W D _ _ HWl.out.symm, HW.out, ← HI.out, List.append_assoc] at hb3
    unfold OwnW
    rw [HIl.out]
    refine ownsRow_of hb3 (by rw [encE_length, HIl.out, Nat.add_sub_cancel]) (by omega) (by unfold maxLen; exact hcm) ?_
    rw [List.length_append, List.length_drop, HDl.out]
    simp only [List.length_cons, List.length_nil]
    omega
  · have hka : Kept (fun k => (Value.slice (some ⟨g, 0, none⟩) (m + 1) cap).ownBlock = some k) w w1 := hk1.mono (fun _ _ h => h.elim)
    exact (hka.trans hk2 (fun j hj h => by simp [Value.ownBlock]; exact h.symm)).trans hk3 (fun j hj h => by simp [Value.ownBlock]; exact h.symm)

end Go.Proofs.Ytclfklcboigifaa
