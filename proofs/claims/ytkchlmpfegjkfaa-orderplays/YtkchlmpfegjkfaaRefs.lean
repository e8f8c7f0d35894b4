/-
  The document's own Put, Get, Delete and Floor over a list of pairs.
-/
import Derived.Test.YtkchlmpfegjkfaaRefM
namespace Go.Proofs.Ytkchlmpfegjkfaa
open Go.RowKit Go.Shelf
set_option linter.unusedSimpArgs false
set_option linter.unusedVariables false

theorem Try.info39 : (Try.prog.info? 39).map (fun i => (i.zero, i.size, i.bytes)) = some (some (.agg #[.int .i64 0, .string ⟨#[]⟩]), 2, 24) := by kernel_rfl
theorem Try.agg39 : aggSize Try.prog 39 2 := by
  obtain ⟨i0, hi, _, hs, _⟩ := info_parts Try.info39
  exact ⟨⟨i0, hi, hs⟩, _, Try.underlying39, .inr ⟨_, rfl⟩⟩
/-- A list of pairs of one's own. -/
def OwnR (w : World) (v : Value) (l : List EntI) : Prop := w.ownsRow 0 39 2 v l.length (encE ekI evI l)
theorem OwnR.kept {S : Nat → Prop} {w w' : World} {v : Value} {l : List EntI} (h : OwnR w v l) (hk : Kept S w w') (hn : ∀ k, v.ownBlock = some k → ¬ S k) : OwnR w' v l := ownsRow_kept h hk hn
theorem two39 {w : World} {l : List EntI} {g : Nat} {C : List Value} (i : Nat) (h : i < l.length) : ((encE ekI evI l ++ C).drop (i * 2)).take 2 = [Value.int .i64 l[i].1, Value.string l[i].2] ∧ i * 2 + 2 ≤ (encE ekI evI l ++ C).length := by
  have hl := encE_length (ek := ekI) (ev := evI) l
  constructor
  · rw [List.drop_append_of_le_length (by omega), List.take_append_of_le_length (by simp; omega)]
    exact encE_two l i h
  · simp
    omega
theorem build39 (k : Int) (x : ByteArray) {w : World} {ρ : Operand → Value} {dst : Option Tmp} {ty : TypeId} {pos : String} {aft : Array Edge} {gd : Option (Nat × Bool)} {a b : Operand} (ha : ρ a = .int .i64 k) (hb : ρ b = .string x) :
    (execOp ρ ⟨dst, .build 39 #[(0, a), (1, b)], ty, pos, aft, gd⟩).run Try.prog w = .ok (.value (.agg #[.int .i64 k, .string x])) w := by
  obtain ⟨i0, hi0, hz0, hs0, hb0⟩ := info_parts Try.info39
  have hpl : ∀ (fields : Array Field), Try.prog.underlying 39 = some (.struct fields) → fields.toList.mapM (fun f => (Try.prog.info? f.type).map fun i => (f.offset, i.size)) = some [(0, 1), (1, 1)] := by
    intro fields hf
    rw [Try.underlying39] at hf
    cases hf
    kernel_rfl
  exact (run_build_two (v1 := .int .i64 k) (v2 := .string x) (M1 := [.int .i64 k]) (M2 := [.string x]) hi0 hz0 Try.underlying39 (hpl _ Try.underlying39) ha hb rfl rfl rfl rfl (by simp [Value.cells]) (by simp [Value.cells])).trans (by simp [put, Value.cells])
/-- What one more pair leaves. -/
def App1 (w : World) (v : Value) (o : List EntI) (w' : World) (v' : Value) : Prop := OwnR w' v' o ∧ Kept (fun k => v.ownBlock = some k) w w' ∧ (∀ k, v'.ownBlock = some k → v.ownBlock = some k ∨ w.heap.size ≤ k)
theorem aw_app1 {ops : Array Oper} {Q : Exit → Act → World → Prop} {a : Act} {w : World} {rest : List Oper} {d d2 : Nat} {ty : TypeId} {pos pos2 : String} {aft aft2 : Array Edge} {x y : Operand} {v : Value} {o : List EntI} (e : EntI) (ho : OwnR w v o) (hl : o.length ≤ 1000000)
    (hd : d < a.tmps.size) (hy : a.eval y = v) (hyd : (a.put (some d) (.slice (some ⟨w.heap.size, 0, none⟩) 1 1)).eval y = a.eval y) (hx : a.eval x = .agg #[.int .i64 e.1, .string e.2])
    (h : ∀ w' ao n c, App1 w v (o ++ [e]) w' (.slice ao n c) → wpList Try.prog ops Q rest ((a.put (some d) (.slice (some ⟨w.heap.size, 0, none⟩) 1 1)).put (some d2) (.slice ao n c)) w') :
    wpList Try.prog ops Q (⟨some d, .buildSlice 26 1 #[(0, x)], ty, pos, aft, none⟩ :: ⟨some d2, .call { callee := .builtin .append, args := #[y, .tmp d], argTypes := #[26, 26] }, 26, pos2, aft2, none⟩ :: rest) a w := by
  obtain ⟨i0, hi0, hz0, hs0, hb0⟩ := info_parts Try.info39
  refine wpList_run rfl (run_buildSlice_one (M := [.int .i64 e.1, .string e.2]) Try.underlying26 hi0 hz0 hs0 (by simp) (by simp) (.inl hx)) ?_
  have hb3 := Blk.new w [.int .i64 e.1, .string e.2] 39
  have hk3 : Kept (fun _ => False) w (w.alloc (.cells [.int .i64 e.1, .string e.2].toArray 39)) := Kept.alloc _ _ _
  generalize w.alloc (.cells [.int .i64 e.1, .string e.2].toArray 39) = w3 at hb3 hk3
  have ho3 : w3.ownsRow 0 39 2 v o.length (encE ekI evI o) := ownsRow_kept ho hk3 (fun _ _ h => h)
  obtain ⟨v', w', hr, h2, h3, _, h5⟩ := run_append_own_at (P := Try.prog) w3 0 26 26 39 i0 _ 2 24 Try.underlying26 hi0 hz0 hs0 hb0 rfl (by decide) v o.length _ ho3 ⟨w.heap.size, 0, none⟩ 1 1 [.int .i64 e.1, .string e.2] rfl (fun j u hj => by rw [addr_add, hb3.cell, Nat.zero_add]; exact hj) (by simp [Value.oneCell']) (by unfold maxLen; omega) (by omega) (Nat.zero_le _)
  obtain ⟨ao, n, c, rfl⟩ := ownsRow_slice h2
  refine wpList_run rfl (r_app (hyd.trans hy) (eval_put_eq _ _ _ hd) hr) (h w' ao n c ⟨?_, ?_, ?_⟩)
  · unfold OwnR
    rw [encE_append, List.length_append]
    exact h2
  · exact (hk3.mono (T := fun k => v.ownBlock = some k) (fun _ _ h => h.elim)).trans (Kept.of_grown h3) (fun _ _ h => h)
  · intro k hk
    rcases h5 with h | h
    · rw [h] at hk; exact .inl hk
    · rw [h] at hk
      have := hk3.size
      cases hk
      exact .inr this

set_option maxRecDepth 100000 in
set_option maxHeartbeats 1000000 in
theorem rget_at (w : World) (v : Value) (l : List EntI) (k : Int) (ho : OwnR w v l) (hs : Sorted ltI l) (hl : l.length ≤ 1000000) :
    Calls Try.prog 9 #[v, .int .i64 k] w fun e w' => e = .returned (.tuple #[.string (getKI l k), .bool (hasK ltI l k)]) ∧ Kept (fun _ => False) w w' := by
  obtain ⟨i0, hi0, hz0, hs0, hb0⟩ := info_parts Try.info39
  have Hi0 := hide hi0
  have Hz0 := hide hz0
  have HS := hide hs
  rcases ownsRow_blk ho with ⟨rfl, h0, _⟩ | ⟨g, cap, C, rfl, hb, hnc, hcm, hC⟩
  · obtain rfl : l = [] := List.eq_nil_of_length_eq_zero h0
    have HG : Hid (getKI [] k = ⟨#[]⟩ ∧ hasK ltI ([] : List EntI) k = false) := hide ⟨rfl, rfl⟩
    clear ho hs hi0 hz0 hs0 hb0
    go_enter Try.func9, Try.ntmps9
    go_wp2
    go_loopw [10] (fun i wr => i = .int .i64 0 ∧ w = wr) (fun i _ => 0)
    case atStart => exact ⟨rfl, rfl⟩
    case round =>
      obtain ⟨rfl, rfl⟩ := hrel
      go_wp2
      go_ret2
      exact ⟨by rw [HG.out.1, HG.out.2]; rfl, Kept.refl _ _⟩
  · have HB := hide hb
    unfold maxLen at hcm
    clear ho hs hb hC hi0 hz0 hs0 hb0
    go_enter Try.func9, Try.ntmps9
    go_wp2
    go_loopw [10] (fun i wr => ∃ j : Nat, i = .int .i64 j ∧ j ≤ l.length ∧ Hid (∀ q (h : q < l.length), q < j → l[q].1 ≠ k) ∧ Kept (fun _ => False) w wr) (fun i _ => l.length - (intOf i).toNat)
    case atStart => exact ⟨0, rfl, Nat.zero_le _, hide (fun q _ h => absurd h (by omega)), Kept.refl _ _⟩
    case round =>
      obtain ⟨j, rfl, hj, HN, hk⟩ := hrel
      by_cases hlt : j < l.length
      · have ⟨h2, h3⟩ := two39 (w := w) (g := g) (C := C) j hlt
        have HB2 := hide (hk.blk HB.out (fun h => h))
        obtain ⟨x, hx⟩ : ∃ x, x = l[j] := ⟨_, rfl⟩
        rw [← hx] at h2
        have H2 := hide h2
        have H3 := hide h3
        have HX := hide hx
        clear h2 h3 hx
        by_cases hkey : x.1 = k
        · have hkey' : (x.1 == k) = true := by simpa using hkey
          have HA : Hid (posK ltI l k = j ∧ hasK ltI l k = true ∧ getKI l k = l[j].2) := hide (at_keyI HS.out hlt (by rw [← HX.out]; exact hkey))
          clear hkey
          go_wp2_with (first
            | ((with_reducible refine aw_load Try.agg39 rfl HB2.out H3.out H2.out ?_))
            | ((with_reducible refine aw_alloc Hi0.out Hz0.out ?_); intro w3 hw3 hk3 hz3; have Hz3 := hide hz3; clear hz3)
            | ((with_reducible refine aw_store (M := [.int .i64 x.1, .string x.2]) Try.agg39 rfl rfl rfl (by simp [Value.oneCell']) hw3 (by simp [Value.cells]) ?_); intro w4 hw4 hk4 hz4; have Hz4 := hide hz4; clear hz4; rw [put_whole _ _ (by simp [Value.cells])] at hw4; have c1 : w4.cell? ⟨wr.heap.size, 0, none⟩ = some (.int .i64 x.1) := hw4.cell 0; have c2 : w4.cell? ⟨wr.heap.size, 1, none⟩ = some (.string x.2) := hw4.cell 1))
          go_ret2
          exact ⟨by rw [HA.out.2.2, HA.out.2.1, ← HX.out]; rfl, (hk.trans hk3 (fun _ _ h => h)).trans hk4 (fun i hi h => by have := hk.size; omega)⟩
        · have hkey' : (x.1 == k) = false := by simpa using hkey
          go_wp2_with (first
            | ((with_reducible refine aw_load Try.agg39 rfl HB2.out H3.out H2.out ?_))
            | ((with_reducible refine aw_alloc Hi0.out Hz0.out ?_); intro w3 hw3 hk3 hz3; have Hz3 := hide hz3; clear hz3)
            | ((with_reducible refine aw_store (M := [.int .i64 x.1, .string x.2]) Try.agg39 rfl rfl rfl (by simp [Value.oneCell']) hw3 (by simp [Value.cells]) ?_); intro w4 hw4 hk4 hz4; have Hz4 := hide hz4; clear hz4; rw [put_whole _ _ (by simp [Value.cells])] at hw4; have c1 : w4.cell? ⟨wr.heap.size, 0, none⟩ = some (.int .i64 x.1) := hw4.cell 0; have c2 : w4.cell? ⟨wr.heap.size, 1, none⟩ = some (.string x.2) := hw4.cell 1))
          go_roundw
          case rel => exact ⟨j + 1, by simp, by omega, hide (fun q hq hqj => by
            by_cases e : q = j
            · subst e; rw [← HX.out]; exact hkey
            · exact HN.out q hq (by omega)), (hk.trans hk3 (fun _ _ h => h)).trans hk4 (fun i hi h => by have := hk.size; omega)⟩
          case measure => simp [intOf]; omega
      · have HG := hide (no_keyI HS.out (k := k) (fun q hq => HN.out q hq (by omega)))
        obtain rfl : j = l.length := by omega
        clear HN
        go_wp2
        go_ret2
        exact ⟨by rw [HG.out.1, HG.out.2]; rfl, hk⟩

set_option maxRecDepth 100000 in
set_option maxHeartbeats 1000000 in
theorem rdel_at (w : World) (v : Value) (l : List EntI) (k : Int) (ho : OwnR w v l) (hs : Sorted ltI l) (hl : l.length ≤ 100000) :
    Calls Try.prog 10 #[v, .int .i64 k] w fun e w' => ∃ v', e = .returned v' ∧ OwnR w' v' (delK ltI l k) ∧ Kept (fun _ => False) w w' := by
  obtain ⟨i0, hi0, hz0, hs0, hb0⟩ := info_parts Try.info39
  have Hi0 := hide hi0
  have Hz0 := hide hz0
  have HS := hide hs
  rcases ownsRow_blk ho with ⟨rfl, h0, _⟩ | ⟨g, cap, C, rfl, hb, hnc, hcm, hC⟩
  · obtain rfl : l = [] := List.eq_nil_of_length_eq_zero h0
    have HD : Hid (delK ltI ([] : List EntI) k = []) := hide rfl
    clear ho hs hi0 hz0 hs0 hb0
    go_enter Try.func10, Try.ntmps10
    go_wp2
    go_loopw [5, 10] (fun o i wr => o = .slice none 0 0 ∧ i = .int .i64 0 ∧ w = wr) (fun _ i _ => 0)
    case atStart => exact ⟨rfl, rfl, rfl⟩
    case round =>
      obtain ⟨rfl, rfl, rfl⟩ := hrel
      go_wp2
      go_ret
      exact ⟨.slice none 0 0, rfl, by rw [HD.out]; exact World.ownsRow_nil w 0 39 2, Kept.refl _ _⟩
  · have HB := hide hb
    unfold maxLen at hcm
    clear ho hs hb hC hi0 hz0 hs0 hb0
    go_enter Try.func10, Try.ntmps10
    go_wp2
    go_loopw [5, 10] (fun o i wr => ∃ (j : Nat) (ao : Option Addr) (n c : Nat), o = .slice ao n c ∧ i = .int .i64 j ∧ j ≤ l.length ∧ Hid (OwnR wr (.slice ao n c) ((l.take j).filter (fun e => decide (e.1 ≠ k)))) ∧ Hid (∀ b, (Value.slice ao n c).ownBlock = some b → w.heap.size ≤ b) ∧ Kept (fun _ => False) w wr) (fun _ i _ => l.length - (intOf i).toNat)
    case atStart => exact ⟨0, none, 0, 0, rfl, rfl, Nat.zero_le _, hide (World.ownsRow_nil _ _ _ _), hide (fun b h => by simp [Value.ownBlock] at h), Kept.refl _ _⟩
    case round =>
      obtain ⟨j, ao, n, c, rfl, rfl, hj, HO, HF, hk⟩ := hrel
      by_cases hlt : j < l.length
      · have ⟨h2, h3⟩ := two39 (w := w) (g := g) (C := C) j hlt
        have HB2 := hide (hk.blk HB.out (fun h => h))
        have hst := del_step HS.out k j hlt
        have hol : ((l.take j).filter (fun e => decide (e.1 ≠ k))).length ≤ 1000000 := by
          have h1 := List.length_filter_le (fun e : EntI => decide (e.1 ≠ k)) (l.take j)
          have h2 : (l.take j).length ≤ j := List.length_take_le _ _
          omega
        obtain ⟨x, hx⟩ : ∃ x, x = l[j] := ⟨_, rfl⟩
        rw [← hx] at h2 hst
        have H2 := hide h2
        have H3 := hide h3
        generalize (l.take j).filter (fun e => decide (e.1 ≠ k)) = o at HO hst hol
        clear h2 h3 hx
        by_cases hkey : x.1 = k
        · have hkey' : (x.1 == k) = true := by simpa using hkey
          rw [if_pos hkey, List.append_nil] at hst
          have HST := hide hst
          clear hst
          go_wp2_with (first
            | ((with_reducible refine aw_load Try.agg39 rfl HB2.out H3.out H2.out ?_))
            | ((with_reducible refine aw_alloc Hi0.out Hz0.out ?_); intro w3 hw3 hk3 hz3; have Hz3 := hide hz3; clear hz3)
            | ((with_reducible refine aw_store (M := [.int .i64 x.1, .string x.2]) Try.agg39 rfl rfl rfl (by simp [Value.oneCell']) hw3 (by simp [Value.cells]) ?_); intro w4 hw4 hk4 hz4; have Hz4 := hide hz4; clear hz4; rw [put_whole _ _ (by simp [Value.cells])] at hw4; have c1 : w4.cell? ⟨wr.heap.size, 0, none⟩ = some (.int .i64 x.1) := hw4.cell 0; have c2 : w4.cell? ⟨wr.heap.size, 1, none⟩ = some (.string x.2) := hw4.cell 1))
          have hkw : Kept (fun _ => False) wr w4 := hk3.trans hk4 (fun i hi h => by omega)
          go_roundw
          case rel => exact ⟨j + 1, ao, n, c, rfl, by simp, by omega, hide (by rw [HST.out]; exact HO.out.kept hkw (fun _ _ h => h)), HF, hk.trans hkw (fun _ _ h => h)⟩
          case measure => simp [intOf]; omega
        · have hkey' : (x.1 == k) = false := by simpa using hkey
          rw [if_neg hkey] at hst
          have HST := hide hst
          clear hst
          go_wp2_with (first
            | ((with_reducible refine aw_load (M := [.int .i64 x.1, .string x.2]) Try.agg39 rfl hw4 (by simp) rfl ?_))
            | ((with_reducible refine aw_load Try.agg39 rfl HB2.out H3.out H2.out ?_))
            | ((with_reducible refine aw_alloc Hi0.out Hz0.out ?_); intro w3 hw3 hk3 hz3; have Hz3 := hide hz3; clear hz3)
            | ((with_reducible refine aw_store (M := [.int .i64 x.1, .string x.2]) Try.agg39 rfl rfl rfl (by simp [Value.oneCell']) hw3 (by simp [Value.cells]) ?_); intro w4 hw4 hk4 hz4; have Hz4 := hide hz4; clear hz4; rw [put_whole _ _ (by simp [Value.cells])] at hw4; have c1 : w4.cell? ⟨wr.heap.size, 0, none⟩ = some (.int .i64 x.1) := hw4.cell 0; have c2 : w4.cell? ⟨wr.heap.size, 1, none⟩ = some (.string x.2) := hw4.cell 1)
            | (with_reducible refine stop_bs 26 ?_))
          refine hide ?_
          have hkw : Kept (fun _ => False) wr w4 := hk3.trans hk4 (fun i hi h => by omega)
          try simp only [put_lit, List.set_cons_succ, List.set_cons_zero]
          refine aw_app1 x (HO.out.kept hkw (fun _ _ h => h)) hol (by simp) rfl rfl rfl ?_
          rintro w5 ao' n' c' ⟨ho5, hk5, hf5⟩
          have HO5 := hide ho5
          have hk05 := (hk.trans hkw (fun _ _ h => h)).trans hk5 (fun i hi h => by have := HF.out i h; omega)
          have HF5 : Hid (∀ b, (Value.slice ao' n' c').ownBlock = some b → w.heap.size ≤ b) := hide (fun b hb => (hf5 b hb).elim (HF.out b) (fun h => by have := hk.size; have := hkw.size; omega))
          clear ho5 hk5 hf5 c1 c2
          try simp only [put_lit, List.set_cons_succ, List.set_cons_zero]
          go_wp2
          go_roundw
          case rel => exact ⟨j + 1, ao', n', c', rfl, by simp, by omega, hide (by rw [HST.out]; exact HO5.out), HF5, hk05⟩
          case measure => simp [intOf]; omega
      · obtain rfl : j = l.length := by omega
        have HD := hide (del_all HS.out k)
        go_wp2
        go_ret
        refine ⟨_, rfl, ?_, hk⟩
        have := HO.out
        rw [List.take_of_length_le (Nat.le_refl _), HD.out] at this
        exact this

set_option maxRecDepth 100000 in
set_option maxHeartbeats 2000000 in
theorem rput_at (w : World) (v : Value) (l : List EntI) (k : Int) (x : ByteArray) (ho : OwnR w v l) (hs : Sorted ltI l) (hl : l.length ≤ 100000) :
    Calls Try.prog 7 #[v, .int .i64 k, .string x] w fun e w' => ∃ v', e = .returned (.tuple #[v', .bool (!hasK ltI l k)]) ∧ OwnR w' v' (putK ltI l k x) ∧ Kept (fun _ => False) w w' := by
  obtain ⟨i0, hi0, hz0, hs0, hb0⟩ := info_parts Try.info39
  have Hi0 := hide hi0
  have Hz0 := hide hz0
  have HS := hide hs
  rcases ownsRow_blk ho with ⟨rfl, h0, _⟩ | ⟨g, cap, C, rfl, hb, hnc, hcm, hC⟩
  · obtain rfl : l = [] := List.eq_nil_of_length_eq_zero h0
    have HD : Hid (putK ltI [] k x = [] ++ [(k, x)] ∧ hasK ltI ([] : List EntI) k = false) := hide ⟨rfl, rfl⟩
    clear ho hs hi0 hz0 hs0 hb0
    go_enter Try.func7, Try.ntmps7
    go_wp2
    go_loopw [8, 9, 10, 15] (fun o d nw i wr => o = .slice none 0 0 ∧ d = .bool false ∧ nw = .bool true ∧ i = .int .i64 0 ∧ w = wr) (fun _ _ _ i _ => 0)
    case atStart => exact ⟨rfl, rfl, rfl, rfl, rfl⟩
    case round =>
      obtain ⟨rfl, rfl, rfl, rfl, rfl⟩ := hrel
      go_wp2_with (with_reducible refine stop_build 39 ?_)
      refine hide ?_
      refine wpList_run rfl (build39 k x rfl rfl) ?_
      try simp only [put_lit, List.set_cons_succ, List.set_cons_zero]
      refine aw_app1 (k, x) (o := []) (World.ownsRow_nil w 0 39 2) (by simp) (by simp) rfl rfl rfl ?_
      rintro w5 ao' n' c' ⟨ho5, hk5, hf5⟩
      have HO5 := hide ho5
      clear ho5 hf5
      try simp only [put_lit, List.set_cons_succ, List.set_cons_zero]
      go_wp2
      go_ret2
      exact ⟨_, by rw [HD.out.2]; rfl, by rw [HD.out.1]; exact HO5.out, hk5.mono (fun _ _ h => by simp [Value.ownBlock] at h)⟩
  · have HB := hide hb
    unfold maxLen at hcm
    clear ho hs hb hC hi0 hz0 hs0 hb0
    go_enter Try.func7, Try.ntmps7
    go_wp2
    go_loopw [8, 9, 10, 15] (fun o d nw i wr => ∃ (j : Nat) (ao : Option Addr) (n c : Nat), o = .slice ao n c ∧ d = .bool (doneJ l k j) ∧ nw = .bool (newJ l k j) ∧ i = .int .i64 j ∧ j ≤ l.length ∧ Hid (OwnR wr (.slice ao n c) (putJ l k x j)) ∧ Hid (∀ b, (Value.slice ao n c).ownBlock = some b → w.heap.size ≤ b) ∧ Kept (fun _ => False) w wr) (fun _ _ _ i _ => l.length - (intOf i).toNat)
    case atStart => exact ⟨0, none, 0, 0, rfl, by simp [doneJ], by simp [newJ], rfl, Nat.zero_le _, hide (by rw [putJ_zero]; exact World.ownsRow_nil w 0 39 2), hide (fun b h => by simp [Value.ownBlock] at h), Kept.refl _ _⟩
    case round =>
      obtain ⟨j, ao, n, c, rfl, rfl, rfl, rfl, hj, HO, HF, hk⟩ := hrel
      by_cases hlt : j < l.length
      · have ⟨h2, h3⟩ := two39 (w := w) (g := g) (C := C) j hlt
        have HB2 := hide (hk.blk HB.out (fun h => h))
        have hol : (putJ l k x j).length ≤ 900000 := by
          have h1 : (putJ l k x j).length ≤ j + 1 := by
            unfold putJ
            split
            · have := List.length_take_le j l; omega
            · have h1 := List.length_take_le (if hasK ltI l k then j else j + 1) (putK ltI l k x)
              have h2 : (if hasK ltI l k then j else j + 1) ≤ j + 1 := by split <;> omega
              omega
          omega
        rcases Nat.lt_trichotomy j (posK ltI l k) with hp | hp | hp
        · -- below k
          have hkey := key_lt (l := l) (k := k) hlt hp
          have hpj := putJ_lo (v := x) hlt hp
          have HJ : Hid (putJ l k x (j + 1) = putJ l k x j ++ [l[j]] ∧ doneJ l k j = false ∧ doneJ l k (j + 1) = false ∧ newJ l k j = true ∧ newJ l k (j + 1) = true) := hide ⟨hpj, by simp [doneJ]; omega, by simp [doneJ]; omega, by simp [newJ]; omega, by simp [newJ]; omega⟩
          obtain ⟨y, hy⟩ : ∃ y, y = l[j] := ⟨_, rfl⟩
          rw [← hy] at h2 hkey HJ
          have H2 := hide h2
          have H3 := hide h3
          clear h2 h3 hy hpj hp
          rw [HJ.out.2.1, HJ.out.2.2.2.1]
          have hk1 : ¬ k ≤ y.1 := by omega
          have hk2 : (y.1 == k) = false := by simp; omega
          go_wp2_with (first
            | ((with_reducible refine aw_load (M := [.int .i64 y.1, .string y.2]) Try.agg39 rfl hw4 (by simp) rfl ?_))
            | ((with_reducible refine aw_load Try.agg39 rfl HB2.out H3.out H2.out ?_))
            | ((with_reducible refine aw_alloc Hi0.out Hz0.out ?_); intro w3 hw3 hk3 hz3; have Hz3 := hide hz3; clear hz3)
            | ((with_reducible refine aw_store (M := [.int .i64 y.1, .string y.2]) Try.agg39 rfl rfl rfl (by simp [Value.oneCell']) hw3 (by simp [Value.cells]) ?_); intro w4 hw4 hk4 hz4; have Hz4 := hide hz4; clear hz4; rw [put_whole _ _ (by simp [Value.cells])] at hw4; have c1 : w4.cell? ⟨wr.heap.size, 0, none⟩ = some (.int .i64 y.1) := hw4.cell 0; have c2 : w4.cell? ⟨wr.heap.size, 1, none⟩ = some (.string y.2) := hw4.cell 1)
            | (with_reducible refine stop_bs 26 ?_))
          refine hide ?_
          have hkw : Kept (fun _ => False) wr w4 := hk3.trans hk4 (fun i hi h => by omega)
          try simp only [put_lit, List.set_cons_succ, List.set_cons_zero]
          refine aw_app1 y (HO.out.kept hkw (fun _ _ h => h)) (by omega) (by simp) rfl rfl rfl ?_
          rintro w5 ao' n' c' ⟨ho5, hk5, hf5⟩
          have HO5 := hide ho5
          have hk05 := (hk.trans hkw (fun _ _ h => h)).trans hk5 (fun i hi h => by have := HF.out i h; omega)
          have HF5 : Hid (∀ b, (Value.slice ao' n' c').ownBlock = some b → w.heap.size ≤ b) := hide (fun b hb => (hf5 b hb).elim (HF.out b) (fun h => by have := hk.size; have := hkw.size; omega))
          clear ho5 hk5 hf5 c1 c2
          try simp only [put_lit, List.set_cons_succ, List.set_cons_zero]
          go_wp2
          go_roundw
          case rel => exact ⟨j + 1, ao', n', c', rfl, by rw [HJ.out.2.2.1], by rw [HJ.out.2.2.2.2], by simp, by omega, hide (by rw [HJ.out.1]; exact HO5.out), HF5, hk05⟩
          case measure => simp [intOf]; omega
        · -- the place
          have hkey := key_ge HS.out (k := k) hlt (by omega)
          cases hh : hasK ltI l k with
          | true =>
            have he := (key_eq_iff HS.out (k := k) hlt).2 ⟨hp, hh⟩
            have hpj : putJ l k x (j + 1) = putJ l k x j ++ [(k, x)] := by rw [hp]; exact putJ_eq (by omega) hh
            have HJ : Hid (putJ l k x (j + 1) = putJ l k x j ++ [(k, x)] ∧ doneJ l k j = false ∧ doneJ l k (j + 1) = true ∧ newJ l k j = true ∧ newJ l k (j + 1) = false) := hide ⟨hpj, by simp [doneJ]; omega, by simp [doneJ]; omega, by simp [newJ]; omega, by simp [newJ, hh]; omega⟩
            obtain ⟨y, hy⟩ : ∃ y, y = l[j] := ⟨_, rfl⟩
            rw [← hy] at h2 hkey he
            have H2 := hide h2
            have H3 := hide h3
            have hk2 : (y.1 == k) = true := by simpa using he
            clear h2 h3 hy hpj hp he hh
            rw [HJ.out.2.1, HJ.out.2.2.2.1]
            go_wp2_with (first
              | ((with_reducible refine aw_load Try.agg39 rfl HB2.out H3.out H2.out ?_))
              | ((with_reducible refine aw_alloc Hi0.out Hz0.out ?_); intro w3 hw3 hk3 hz3; have Hz3 := hide hz3; clear hz3)
              | ((with_reducible refine aw_store (M := [.int .i64 y.1, .string y.2]) Try.agg39 rfl rfl rfl (by simp [Value.oneCell']) hw3 (by simp [Value.cells]) ?_); intro w4 hw4 hk4 hz4; have Hz4 := hide hz4; clear hz4; rw [put_whole _ _ (by simp [Value.cells])] at hw4; have c1 : w4.cell? ⟨wr.heap.size, 0, none⟩ = some (.int .i64 y.1) := hw4.cell 0; have c2 : w4.cell? ⟨wr.heap.size, 1, none⟩ = some (.string y.2) := hw4.cell 1)
              | (with_reducible refine stop_build 39 ?_))
            refine hide ?_
            have hkw : Kept (fun _ => False) wr w4 := hk3.trans hk4 (fun i hi h => by omega)
            refine wpList_run rfl (build39 k x rfl rfl) ?_
            try simp only [put_lit, List.set_cons_succ, List.set_cons_zero]
            refine aw_app1 (k, x) (HO.out.kept hkw (fun _ _ h => h)) (by omega) (by simp) rfl rfl rfl ?_
            rintro w5 ao' n' c' ⟨ho5, hk5, hf5⟩
            have HO5 := hide ho5
            have hbp : Blk w5 wr.heap.size [.int .i64 y.1, .string y.2] 39 := hk5.blk hw4 (fun h => by have := ownsRow_lt HO.out _ h; omega)
            have hk05 := (hk.trans hkw (fun _ _ h => h)).trans hk5 (fun i hi h => by have := HF.out i h; omega)
            have HF5 : Hid (∀ b, (Value.slice ao' n' c').ownBlock = some b → w.heap.size ≤ b) := hide (fun b hb => (hf5 b hb).elim (HF.out b) (fun h => by have := hk.size; have := hkw.size; omega))
            clear ho5 hk5 hf5 c1 c2
            have c1 : w5.cell? ⟨wr.heap.size, 0, none⟩ = some (.int .i64 y.1) := hbp.cell 0
            try simp only [put_lit, List.set_cons_succ, List.set_cons_zero]
            go_wp2
            go_roundw
            case rel => exact ⟨j + 1, ao', n', c', rfl, by rw [HJ.out.2.2.1], by rw [HJ.out.2.2.2.2], by simp, by omega, hide (by rw [HJ.out.1]; exact HO5.out), HF5, hk05⟩
            case measure => simp [intOf]; omega
          | false =>
            have he : l[j].1 ≠ k := fun e => by have := ((key_eq_iff HS.out (k := k) hlt).1 e).2; rw [hh] at this; cases this
            have hpj : putJ l k x (j + 1) = putJ l k x j ++ [(k, x)] ++ [l[j]] := by subst hp; exact putJ_ne (by omega) hh
            have HJ : Hid (putJ l k x (j + 1) = putJ l k x j ++ [(k, x)] ++ [l[j]] ∧ doneJ l k j = false ∧ doneJ l k (j + 1) = true ∧ newJ l k j = true ∧ newJ l k (j + 1) = true) := hide ⟨hpj, by simp [doneJ]; omega, by simp [doneJ]; omega, by simp [newJ]; omega, by simp [newJ, hh]⟩
            obtain ⟨y, hy⟩ : ∃ y, y = l[j] := ⟨_, rfl⟩
            rw [← hy] at h2 hkey he HJ
            have H2 := hide h2
            have H3 := hide h3
            have hk2 : (y.1 == k) = false := by simpa using he
            clear h2 h3 hy hpj hp he hh
            rw [HJ.out.2.1, HJ.out.2.2.2.1]
            go_wp2_with (first
              | ((with_reducible refine aw_load Try.agg39 rfl HB2.out H3.out H2.out ?_))
              | ((with_reducible refine aw_alloc Hi0.out Hz0.out ?_); intro w3 hw3 hk3 hz3; have Hz3 := hide hz3; clear hz3)
              | ((with_reducible refine aw_store (M := [.int .i64 y.1, .string y.2]) Try.agg39 rfl rfl rfl (by simp [Value.oneCell']) hw3 (by simp [Value.cells]) ?_); intro w4 hw4 hk4 hz4; have Hz4 := hide hz4; clear hz4; rw [put_whole _ _ (by simp [Value.cells])] at hw4; have c1 : w4.cell? ⟨wr.heap.size, 0, none⟩ = some (.int .i64 y.1) := hw4.cell 0; have c2 : w4.cell? ⟨wr.heap.size, 1, none⟩ = some (.string y.2) := hw4.cell 1)
              | (with_reducible refine stop_build 39 ?_))
            refine hide ?_
            have hkw : Kept (fun _ => False) wr w4 := hk3.trans hk4 (fun i hi h => by omega)
            refine wpList_run rfl (build39 k x rfl rfl) ?_
            try simp only [put_lit, List.set_cons_succ, List.set_cons_zero]
            refine aw_app1 (k, x) (HO.out.kept hkw (fun _ _ h => h)) (by omega) (by simp) rfl rfl rfl ?_
            rintro w5 ao' n' c' ⟨ho5, hk5, hf5⟩
            have HO5 := hide ho5
            have hbp : Blk w5 wr.heap.size [.int .i64 y.1, .string y.2] 39 := hk5.blk hw4 (fun h => by have := ownsRow_lt HO.out _ h; omega)
            have hk05 := (hk.trans hkw (fun _ _ h => h)).trans hk5 (fun i hi h => by have := HF.out i h; omega)
            have HF5 : Hid (∀ b, (Value.slice ao' n' c').ownBlock = some b → w.heap.size ≤ b) := hide (fun b hb => (hf5 b hb).elim (HF.out b) (fun h => by have := hk.size; have := hkw.size; omega))
            clear ho5 hk5 hf5 c1 c2
            have c1 : w5.cell? ⟨wr.heap.size, 0, none⟩ = some (.int .i64 y.1) := hbp.cell 0
            try simp only [put_lit, List.set_cons_succ, List.set_cons_zero]
            go_wp2_with (first
              | ((with_reducible refine aw_load (M := [.int .i64 y.1, .string y.2]) Try.agg39 rfl hbp (by simp) rfl ?_))
              | (with_reducible refine stop_bs 26 ?_))
            refine hide ?_
            try simp only [put_lit, List.set_cons_succ, List.set_cons_zero]
            refine aw_app1 y HO5.out (by rw [List.length_append]; simp; omega) (by simp) rfl rfl rfl ?_
            rintro w6 ao6 n6 c6 ⟨ho6, hk6, hf6⟩
            have HO6 := hide ho6
            have hk06 := hk05.trans hk6 (fun i hi h => by have := HF5.out i h; omega)
            have HF6 : Hid (∀ b, (Value.slice ao6 n6 c6).ownBlock = some b → w.heap.size ≤ b) := hide (fun b hb => (hf6 b hb).elim (HF5.out b) (fun h => by have := hk05.size; omega))
            clear ho6 hk6 hf6 c1 hbp
            try simp only [put_lit, List.set_cons_succ, List.set_cons_zero]
            go_wp2
            go_roundw
            case rel => exact ⟨j + 1, ao6, n6, c6, rfl, by rw [HJ.out.2.2.1], by rw [HJ.out.2.2.2.2], by simp, by omega, hide (by rw [HJ.out.1]; exact HO6.out), HF6, hk06⟩
            case measure => simp [intOf]; omega
        · -- above k
          have hkey := key_gt HS.out (k := k) hlt hp
          have hpj := putJ_hi (v := x) hlt hp
          obtain ⟨nw, hnw⟩ : ∃ nw, nw = newJ l k j := ⟨_, rfl⟩
          have HJ : Hid (putJ l k x (j + 1) = putJ l k x j ++ [l[j]] ∧ doneJ l k j = true ∧ doneJ l k (j + 1) = true ∧ newJ l k (j + 1) = nw) := hide ⟨hpj, by simp [doneJ]; omega, by simp [doneJ]; omega, by
            rw [hnw]
            have e1 : decide (posK ltI l k < j + 1) = true := decide_eq_true (by omega)
            have e2 : decide (posK ltI l k < j) = true := decide_eq_true hp
            simp only [newJ, e1, e2]⟩
          obtain ⟨y, hy⟩ : ∃ y, y = l[j] := ⟨_, rfl⟩
          rw [← hy] at h2 hkey HJ
          have H2 := hide h2
          have H3 := hide h3
          rw [HJ.out.2.1, ← hnw]
          clear h2 h3 hy hpj hp hnw
          have hk1 : k ≤ y.1 := by omega
          have hk2 : (y.1 == k) = false := by simp; omega
          go_wp2_with (first
            | ((with_reducible refine aw_load (M := [.int .i64 y.1, .string y.2]) Try.agg39 rfl hw4 (by simp) rfl ?_))
            | ((with_reducible refine aw_load Try.agg39 rfl HB2.out H3.out H2.out ?_))
            | ((with_reducible refine aw_alloc Hi0.out Hz0.out ?_); intro w3 hw3 hk3 hz3; have Hz3 := hide hz3; clear hz3)
            | ((with_reducible refine aw_store (M := [.int .i64 y.1, .string y.2]) Try.agg39 rfl rfl rfl (by simp [Value.oneCell']) hw3 (by simp [Value.cells]) ?_); intro w4 hw4 hk4 hz4; have Hz4 := hide hz4; clear hz4; rw [put_whole _ _ (by simp [Value.cells])] at hw4; have c1 : w4.cell? ⟨wr.heap.size, 0, none⟩ = some (.int .i64 y.1) := hw4.cell 0; have c2 : w4.cell? ⟨wr.heap.size, 1, none⟩ = some (.string y.2) := hw4.cell 1)
            | (with_reducible refine stop_bs 26 ?_))
          refine hide ?_
          have hkw : Kept (fun _ => False) wr w4 := hk3.trans hk4 (fun i hi h => by omega)
          try simp only [put_lit, List.set_cons_succ, List.set_cons_zero]
          refine aw_app1 y (HO.out.kept hkw (fun _ _ h => h)) (by omega) (by simp) rfl rfl rfl ?_
          rintro w5 ao' n' c' ⟨ho5, hk5, hf5⟩
          have HO5 := hide ho5
          have hk05 := (hk.trans hkw (fun _ _ h => h)).trans hk5 (fun i hi h => by have := HF.out i h; omega)
          have HF5 : Hid (∀ b, (Value.slice ao' n' c').ownBlock = some b → w.heap.size ≤ b) := hide (fun b hb => (hf5 b hb).elim (HF.out b) (fun h => by have := hk.size; have := hkw.size; omega))
          clear ho5 hk5 hf5 c1 c2
          try simp only [put_lit, List.set_cons_succ, List.set_cons_zero]
          go_wp2
          go_roundw
          case rel => exact ⟨j + 1, ao', n', c', rfl, by rw [HJ.out.2.2.1], by rw [HJ.out.2.2.2], by simp, by omega, hide (by rw [HJ.out.1]; exact HO5.out), HF5, hk05⟩
          case measure => simp [intOf]; omega
      · obtain rfl : j = l.length := by omega
        have hend := putJ_end (l := l) (k := k) (v := x)
        cases hd : doneJ l k l.length with
        | true =>
          rw [hd] at hend
          have HE := hide hend
          clear hend hd
          go_wp2
          go_ret2
          refine ⟨_, by rw [← HE.out.2]; rfl, ?_, hk⟩
          have h1 : putJ l k x l.length = putK ltI l k x := by simpa using HE.out.1
          rw [← h1]
          exact HO.out
        | false =>
          rw [hd] at hend
          have HE := hide hend
          have hol : (putJ l k x l.length).length ≤ 900000 := by
            have h1 : (putJ l k x l.length).length ≤ l.length + 1 := by
              unfold putJ
              split
              · have := List.length_take_le l.length l; omega
              · have h1 := List.length_take_le (if hasK ltI l k then l.length else l.length + 1) (putK ltI l k x)
                have h2 : (if hasK ltI l k then l.length else l.length + 1) ≤ l.length + 1 := by split <;> omega
                omega
            omega
          clear hend hd
          go_wp2_with (with_reducible refine stop_build 39 ?_)
          refine hide ?_
          refine wpList_run rfl (build39 k x rfl rfl) ?_
          try simp only [put_lit, List.set_cons_succ, List.set_cons_zero]
          refine aw_app1 (k, x) HO.out (by omega) (by simp) rfl rfl rfl ?_
          rintro w5 ao' n' c' ⟨ho5, hk5, hf5⟩
          have HO5 := hide ho5
          clear ho5 hf5
          try simp only [put_lit, List.set_cons_succ, List.set_cons_zero]
          go_wp2
          go_ret2
          refine ⟨_, by rw [← HE.out.2]; rfl, ?_, hk.trans hk5 (fun i hi h => by have := HF.out i h; omega)⟩
          have h1 : putJ l k x l.length ++ [(k, x)] = putK ltI l k x := by simpa using HE.out.1
          rw [← h1]
          exact HO5.out

end Go.Proofs.Ytkchlmpfegjkfaa
