/-
  Merge, of the reference.
-/
import Derived.Test.YtclfklcboigifaaRRefW
namespace Go.Proofs.Ytclfklcboigifaa
open Go.RowKit Go.Shelf
set_option linter.unusedSimpArgs false
set_option linter.unusedVariables false

theorem merge_len (l : List Wr) : (mergeW l).length ≤ l.length := by
  have h : ∀ (l m : List Wr), (l.foldl insW m).length ≤ m.length + l.length := by
    intro l
    induction l with
    | nil => intro m; simp
    | cons x l ih =>
      intro m
      have h1 : ∀ m : List Wr, (insW m x).length ≤ m.length + 1 := by
        intro m
        induction m with
        | nil => simp [insW]
        | cons y m ihm =>
          unfold insW
          split
          · simp
          · split
            · simp
            · simp only [List.length_cons]; omega
      have h2 := ih (insW m x)
      have h3 := h1 m
      simp only [List.foldl_cons, List.length_cons]
      omega
  have := h l []
  simpa [mergeW] using this
theorem ws_blk {w : World} {g : Nat} {l : List Wv} {L : List Value} (hb : Blk w g L 63) (hL : L = encE ekB evB (l.map Wv.ent)) (hs : ∀ x ∈ l, Src w x.s.v x.B) (n : Nat) (hn : l.length = n) (hl : n ≤ 1000) : WsAt w (.slice (some ⟨g, 0, none⟩) n n) l := by
  subst hn
  refine ⟨⟨_, _, by rw [List.length_map], by rw [List.length_map]; exact Nat.le_refl _, fun _ => ⟨g, 0, rfl, ?_⟩⟩, hs, by omega⟩
  rw [← hL]
  intro j v hj
  rw [Nat.zero_add, hb.cell]
  exact hj
section
variable {P : Program} {md : Region.Mode} {ops : Array Oper} {a : Act}
theorem wanted_undef {o oj : Oper} {j d : Nat} {bb : Bool} (hg : o.guard = some (j, bb)) (hj : ops[j]? = some oj) (hd : oj.dst = some d) (hb : a.eval (.tmp d) = undef) (hs : d < a.tmps.size) : Region.wanted o (yielded ops a.tmps) = false := by
  have hb' : a.tmps[d]? = some undef := by
    simp only [Act.eval, Array.getD_eq_getD_getElem?] at hb
    rw [Array.getElem?_eq_getElem hs] at hb ⊢
    simpa using hb
  cases bb <;> simp [Region.wanted, hg, yielded, hj, hd, hb', undef]
end
section
variable {ρ : Operand → Value} {w : World} {dst : Option Tmp} {ty : TypeId} {pos : String} {aft : Array Edge} {gd : Option (Nat × Bool)} {x y z : Operand}
theorem r_gtr3 {p q : Int} (hx : ρ x = .int .i64 p) (hy : ρ y = .int .i64 q) : (execOp ρ ⟨dst, .binOp .gtr 3 x y 3, ty, pos, aft, gd⟩).run Try.prog w = .ok (.value (.bool (decide (p > q)))) w := by
  go_simp
theorem r_subk {m : Nat} (hm : m ≤ 9223372036854775806) (hx : ρ x = .int .i64 ((m + 1 : Nat) : Int)) (hy : ρ y = .int .i64 1) : (execOp ρ ⟨dst, .binOp .sub 3 x y 3, ty, pos, aft, gd⟩).run Try.prog w = .ok (.value (.int .i64 (m : Int))) w := by
  go_simp
  rw [IntKind.wrap_i64] <;> omega
theorem r_lss3 {p q : Int} (hx : ρ x = .int .i64 p) (hy : ρ y = .int .i64 q) : (execOp ρ ⟨dst, .binOp .lss 3 x y 3, ty, pos, aft, gd⟩).run Try.prog w = .ok (.value (.bool (decide (p < q)))) w := by
  go_simp
theorem r_leq3 {p q : Int} (hx : ρ x = .int .i64 p) (hy : ρ y = .int .i64 q) : (execOp ρ ⟨dst, .binOp .leq 3 x y 3, ty, pos, aft, gd⟩).run Try.prog w = .ok (.value (.bool (decide (p ≤ q)))) w := by
  go_simp
theorem r_len22 {ao : Option Addr} {l c : Nat} (hx : ρ x = .slice ao l c) : (execOp ρ ⟨dst, .call { callee := .builtin .len, args := #[x], argTypes := #[33] }, ty, pos, aft, gd⟩).run Try.prog w = .ok (.value (.int .i64 l)) w := by
  go_simp
end
/-- A row of one's own that holds writes whose bytes lie elsewhere. -/
def WsRow (w : World) (v : Value) (l : List Wv) : Prop := w.ownsRow 0 63 2 v l.length (encE ekB evB (l.map Wv.ent))
theorem WsRow.nil (w : World) : WsRow w (.slice none 0 0) [] := World.ownsRow_nil _ _ _ _
theorem WsRow.sl {w : World} {v : Value} {l : List Wv} (h : WsRow w v l) : ∃ ao c, v = .slice ao l.length c := ownsRow_slice h
theorem WsRow.kept {S : Nat → Prop} {w w' : World} {v : Value} {l : List Wv} (h : WsRow w v l) (hk : Kept S w w') (hv : ∀ k, v.ownBlock = some k → ¬ S k) : WsRow w' v l := ownsRow_kept h hk hv
theorem WsRow.at {w : World} {v : Value} {l : List Wv} (h : WsRow w v l) (hs : ∀ x ∈ l, Src w x.s.v x.B) (hl : l.length ≤ 9223372036854775807) : WsAt w v l := by
  refine ⟨?_, hs, hl⟩
  rcases ownsRow_blk h with ⟨rfl, h1, h2⟩ | ⟨g, cap, C, rfl, hb, hnc, hcm, hC⟩
  · have : l = [] := List.eq_nil_of_length_eq_zero h1
    subst this
    exact ⟨none, 0, rfl, by simp, fun h => absurd h (by simp)⟩
  · refine ⟨_, cap, by rw [List.length_map], by rw [List.length_map]; exact hnc, fun _ => ⟨g, 0, rfl, ?_⟩⟩
    have h := hb.cells 0 (l.length * 2)
    rw [List.drop_zero, List.take_append_of_le_length (by rw [encE_length, List.length_map]; omega), List.take_of_length_le (by rw [encE_length, List.length_map]; omega)] at h
    exact h
theorem run_append_none_any {P : Program} {w : World} (base : Nat) (t ty e : TypeId) (i : TypeInfo) (size : Nat) (ht : P.underlying t = some (.slice e)) (hi : P.info? e = some i) (c : Nat)
    (v : Value) (n : Nat) (xs : List Value) (hown : w.ownsRow base e size v n xs) : (Builtin.append_ #[t, t] ty #[v, .slice none 0 c]).run P w = .ok v w := by
  rcases hown.2 with ⟨rfl, rfl⟩ | ⟨g, cap, cur, rfl, _, _, hnc, _⟩
  · simp [Builtin.append_, run_underlying ht, sizeOf, typeInfo, hi, Builtin.lenOf, Builtin.firstCells]
  · simp [Builtin.append_, run_underlying ht, sizeOf, typeInfo, hi, Builtin.lenOf, Builtin.firstCells, hnc, storeCells]
theorem enc_one {L : List EntB} : ∀ u ∈ encE ekB evB L, u.oneCell' = true := by
  induction L with
  | nil => simp [encE]
  | cons x L ih =>
    intro u hu
    simp only [encE, List.mem_cons] at hu
    rcases hu with rfl | rfl | hu
    · rfl
    · rfl
    · exact ih u hu
theorem WsRow.app {w : World} {v u : Value} {l m : List Wv} (h : WsRow w v l) (hu : WsAt w u m) (hl : l.length + m.length ≤ 2000000) (ty : TypeId) :
    ∃ v' w', (Builtin.append_ #[33, 33] ty #[v, u]).run Try.prog w = .ok v' w' ∧ WsRow w' v' (l ++ m) ∧ Kept (fun k => v.ownBlock = some k) w w' ∧ (v'.ownBlock = v.ownBlock ∨ v'.ownBlock = some w.heap.size) := by
  obtain ⟨i0, hi, hz, hs, hb⟩ := info_parts Try.info63
  obtain ⟨⟨ao, cap, rfl, hcap, hc⟩, _, _⟩ := hu
  have hcap' : m.length ≤ cap := by rw [List.length_map] at hcap; exact hcap
  have hc' : 0 < m.length → ∃ g off, ao = some ⟨g, off, none⟩ ∧ Cells w g off (encE ekB evB (m.map Wv.ent)) := fun h0 => hc (by rw [List.length_map]; exact h0)
  clear hcap hc
  rw [List.length_map]
  cases ao with
  | none =>
    have hm : m = [] := by
      rcases Nat.eq_zero_or_pos m.length with h0 | h0
      · exact List.eq_nil_of_length_eq_zero h0
      · obtain ⟨_, _, e, _⟩ := hc' h0
        cases e
    subst hm
    exact ⟨_, _, run_append_none_any (P := Try.prog) 0 33 ty 63 i0 2 Try.underlying33 hi cap v _ _ h, by simpa using h, Kept.refl _ _, .inl rfl⟩
  | some a =>
    have hcl : ∀ j u, (encE ekB evB (m.map Wv.ent))[j]? = some u → w.cell? (a.add j) = some u := by
      intro j u hj
      by_cases h0 : 0 < m.length
      · obtain ⟨sb, so, he, hcc⟩ := hc' h0
        cases he
        rw [addr_add]
        exact hcc j u hj
      · obtain rfl : m = [] := List.eq_nil_of_length_eq_zero (by omega)
        simp [encE] at hj
    obtain ⟨v', w', hr, h2, h3, _, h5⟩ := run_append_own_at (P := Try.prog) w 0 33 ty 63 i0 _ 2 32 Try.underlying33 hi hz hs hb rfl (by decide) v l.length _ h a m.length cap (encE ekB evB (m.map Wv.ent)) (by rw [encE_length, List.length_map]) hcl enc_one (by unfold maxLen; omega) (by omega) (Nat.zero_le _)
    refine ⟨v', w', hr, ?_, Kept.of_grown h3, h5⟩
    unfold WsRow
    rw [List.map_append, encE_append, List.length_append]
    exact h2
/-- The word of the first loop: what was put together so far. -/
def AllI (w W : World) (v : Value) (l : List Wv) : Prop := WsRow W v l ∧ (∀ k, v.ownBlock = some k → w.heap.size ≤ k) ∧ Kept (fun _ => False) w W
/-- The word of the second: what was brought over so far. -/
def OutI (w W : World) (v : Value) (A o : List Wv) : Prop := AllI w W v o ∧ (∃ rest, mergeW (A.map Wv.wr) = o.map Wv.wr ++ rest) ∧ ∀ x ∈ o, x ∈ A
def curW (A : List Wv) : Option Nat → Option Wr
  | none => none
  | some j => (A[j]?).map Wv.wr
def bestI : Option Nat → Int
  | none => -1
  | some j => j
def lenV : Value → Nat
  | .slice _ n _ => n
  | _ => 0
theorem best_step {A : List Wv} {k : Nat} (hk : k < A.length) {lo : Option Int} {b : Option Nat} {R : Option Wr} (h : bestW lo ((A.drop k).map Wv.wr) (curW A b) = R) (c : Bool) (hc : c = decide (okW lo A[k].wr = true ∧ ∀ x, curW A b = some x → A[k].wr.blk ≤ x.blk)) :
    bestW lo ((A.drop (k + 1)).map Wv.wr) (curW A (if c then some k else b)) = R := by
  rw [List.drop_eq_getElem_cons hk, List.map_cons, bestW] at h
  subst hc
  rw [← h]
  have e : curW A (some k) = some A[k].wr := by simp [curW, List.getElem?_eq_getElem hk]
  by_cases hh : okW lo A[k].wr = true ∧ ∀ x, curW A b = some x → A[k].wr.blk ≤ x.blk
  · rw [if_pos hh, if_pos (by simpa using hh), e]
  · rw [if_neg hh, if_neg (by simpa using hh)]

theorem WsRow.last {w : World} {oa : Option Addr} {n oc : Nat} {o : List Wv} (h : WsRow w (.slice oa n oc) o) : (n = 0 ∧ lastBlk (o.map Wv.wr) = none) ∨ ∃ (m : Nat) (q : Int) (og oo : Nat), n = m + 1 ∧ oa = some ⟨og, oo, none⟩ ∧ Cells w og (oo + m * 2) [.int .i64 q] ∧ lastBlk (o.map Wv.wr) = some q := by
  obtain ⟨ao', c', e⟩ := h.sl
  cases e
  rcases Nat.eq_zero_or_pos o.length with h0 | h0
  · obtain rfl := List.eq_nil_of_length_eq_zero h0
    exact .inl ⟨rfl, rfl⟩
  · refine .inr ?_
    rcases ownsRow_blk h with ⟨_, h1, _⟩ | ⟨g, cap, C, e, hb, hnc, hcm, hC⟩
    · rw [h1] at h0; omega
    · cases e
      obtain ⟨m, hm⟩ : ∃ m, o.length = m + 1 := ⟨o.length - 1, by omega⟩
      have hml : m < o.length := by omega
      refine ⟨m, o[m].blk, g, 0, hm, rfl, ?_, ?_⟩
      · have hc := hb.cells 0 (o.length * 2)
        rw [List.drop_zero, List.take_append_of_le_length (by rw [encE_length, List.length_map]; omega), List.take_of_length_le (by rw [encE_length, List.length_map]; omega)] at hc
        have hk := hc _ _ (encE_key (ek := ekB) (ev := evB) (o.map Wv.ent) m (by rw [List.length_map]; exact hml))
        rw [List.getElem_map] at hk
        intro j u hj
        match j with
        | 0 => simp at hj; rw [← hj]; exact hk
        | j + 1 => simp at hj
      · unfold lastBlk
        rw [List.getLast?_eq_getElem?, List.length_map, List.getElem?_map, show o.length - 1 = m by omega, List.getElem?_eq_getElem hml]
        rfl
theorem cell_one {w : World} {b o : Nat} {v : Value} (h : w.cell? ⟨b, o, none⟩ = some v) : Cells w b o [v] := by
  intro j u hj
  match j with
  | 0 => simp at hj; rw [← hj]; exact h
  | j + 1 => simp at hj

set_option maxRecDepth 100000 in
set_option maxHeartbeats 8000000 in
theorem rmerge_at (w : World) (v : Value) (ls : List (Sl × List Wv)) (h : LsAt w v ls) (hn : (allV ls).length ≤ 1000000) :
    Calls Try.prog 30 #[v] w fun e w' => ∃ (t : Sl) (ws : List Wv), e = .returned (.slice t.a t.n t.c) ∧ WsAt w' t.v ws ∧ ws.map Wv.wr = mergeW ((allV ls).map Wv.wr) ∧ Kept (fun _ => False) w w' ∧ WsRow w' t.v ws ∧ (∀ k, t.v.ownBlock = some k → w.heap.size ≤ k) ∧ ∀ x ∈ ws, x ∈ allV ls := by
  obtain ⟨ao, cap, rfl⟩ := h.slice
  have HL := hide h
  have hmax := h.2.2
  clear h
  obtain ⟨i40, hi40, hz40, hs40, hb40⟩ := info_parts Try.info63
  have Hi40 := hide hi40
  have Hz40 := hide hz40
  have Hs40 := hide hs40
  clear hi40 hz40 hs40 hb40
  go_enter Try.func30, Try.ntmps30
  go_wp2
  go_loopw [3, 12] (fun av iv W => ∃ i : Nat, iv = .int .i64 i ∧ i ≤ ls.length ∧ Hid (AllI w W av (allV (ls.take i)))) (fun _ iv _ => ls.length - (intOf iv).toNat)
  case atStart => exact ⟨0, rfl, Nat.zero_le _, hide ⟨WsRow.nil w, fun k h => by simp [Value.ownBlock] at h, Kept.refl _ _⟩⟩
  case round =>
    obtain ⟨i, rfl, hi, HI⟩ := hrel
    by_cases hlt : i < ls.length
    · obtain ⟨g, off, rfl, c0, hws⟩ := (HL.out.kept HI.out.2.2).get hlt
      have HT : Hid (allV (ls.take (i + 1)) = allV (ls.take i) ++ ls[i].2) := hide (allV_take ls i hlt)
      have HTl : Hid ((allV (ls.take (i + 1))).length ≤ 1000000) := hide (Nat.le_trans (allV_len ls (i + 1)) hn)
      obtain ⟨x, hx⟩ : ∃ x, x = ls[i] := ⟨_, rfl⟩
      rw [← hx] at c0 hws HT
      obtain ⟨⟨xa, xn, xc⟩, l⟩ := x
      simp only at c0 HT
      have HW : Hid (WsAt wr (.slice xa xn xc) l) := hide hws
      clear hws hx
      go_wp2_with (with_reducible refine stop_app2 33 33 ?_)
      refine hide ?_
      obtain ⟨v', w', hr, hrow, hk, hob⟩ := HI.out.1.app HW.out (by have := HTl.out; rw [HT.out, List.length_append] at this; omega) 33
      refine wpList_run rfl (r_app rfl rfl hr) ?_
      have HI2 : Hid (AllI w w' v' (allV (ls.take (i + 1)))) := hide (by
        rw [HT.out]
        refine ⟨hrow, fun k h => ?_, HI.out.2.2.trans hk (fun j hj h => by have := HI.out.2.1 j h; omega)⟩
        rcases hob with e | e
        · rw [e] at h; exact HI.out.2.1 k h
        · rw [e] at h; cases h; exact HI.out.2.2.size)
      clear hr hrow hk hob HI HT HTl HW c0
      go_wp2
      go_roundw
      case rel => exact ⟨i + 1, by simp, by omega, HI2⟩
      case measure => simp [intOf]; omega
    · obtain rfl : ls.length = i := by omega
      rw [List.take_length] at HI
      obtain ⟨aa, ac, e⟩ := HI.out.1.sl
      subst e
      obtain ⟨A, hA⟩ : ∃ A, A = allV ls := ⟨_, rfl⟩
      rw [← hA] at HI hn ⊢
      have HAl := hide hA
      have HAr := hide (HI.out.1.at (fun x hx => by
        rw [hA] at hx
        obtain ⟨y, hy, hxy⟩ := allV_mem hx
        exact ((HL.out.2.1 y hy).2.1 x hxy).kept HI.out.2.2) (by omega))
      have HK := hide HI.out.2.2
      obtain ⟨N, hN⟩ : ∃ N, N = A.length := ⟨_, rfl⟩
      rw [← hN] at hn HI HAr ⊢
      have HN := hide hN
      clear hN hA HL hlt hi hmax HI
      rename World => w1
      go_wp2
      go_loopw [4] (fun ov W => ∃ o : List Wv, Hid (OutI w1 W ov A o)) (fun ov _ => (mergeW (A.map Wv.wr)).length - lenV ov)
      case atStart => exact ⟨[], hide ⟨⟨WsRow.nil _, fun k h => by simp [Value.ownBlock] at h, Kept.refl _ _⟩, ⟨_, rfl⟩, by simp⟩⟩
      case round =>
        rename World => w2
        obtain ⟨o, HO⟩ := hrel
        obtain ⟨oa, oc, e⟩ := HO.out.1.1.sl
        subst e
        obtain ⟨on, hon⟩ : ∃ n, n = o.length := ⟨_, rfl⟩
        rw [← hon] at HO ⊢
        have HON := hide hon
        have honb : on ≤ 1000000 := by
          obtain ⟨rest, hr⟩ := HO.out.2.1
          have h1 := congrArg List.length hr
          have h2 := merge_len (A.map Wv.wr)
          rw [List.length_append, List.length_map] at h1
          rw [List.length_map, ← HN.out] at h2
          omega
        have HLast := hide HO.out.1.1.last
        have HNext : Hid (∀ rest, mergeW (A.map Wv.wr) = o.map Wv.wr ++ rest → bestW (lastBlk (o.map Wv.wr)) (A.map Wv.wr) none = rest.head?) := hide (fun rest h => best_next h)
        obtain ⟨lo, hlo⟩ : ∃ lo, lo = lastBlk (o.map Wv.wr) := ⟨_, rfl⟩
        rw [← hlo] at HLast HNext
        obtain ⟨R, hR⟩ : ∃ R, R = bestW lo (A.map Wv.wr) none := ⟨_, rfl⟩
        rw [← hR] at HNext
        have HR := hide hR
        clear hon hlo hR
        go_wp2
        go_loopw [7, 22] (fun bv kv W => ∃ (k : Nat) (bo : Option Nat), kv = .int .i64 k ∧ k ≤ N ∧ bv = .int .i64 (bestI bo) ∧ (∀ j, bo = some j → j < N) ∧ Hid (bestW lo ((A.drop k).map Wv.wr) (curW A bo) = R) ∧ Kept (fun _ => False) w2 W) (fun _ kv _ => N - (intOf kv).toNat)
        case atStart => exact ⟨0, none, rfl, Nat.zero_le _, rfl, (fun j h => by cases h), hide (by rw [List.drop_zero, HR.out]; rfl), Kept.refl _ _⟩
        case round =>
          obtain ⟨k, bo, rfl, hk, rfl, hbo, HB, hkr⟩ := hrel
          have HBJ := hide hbo
          clear hbo
          by_cases hlt2 : k < N
          · have hkA : k < A.length := by rw [← HN.out]; exact hlt2
            obtain ⟨g, off, e, c0, c1, _, _⟩ := (HAr.out.kept (HO.out.1.2.2.trans hkr (fun _ _ h => h))).get hkA
            subst e
            have HCells : Hid (∀ j (hj : j < A.length), Cells wr g (off + j * 2) [.int .i64 A[j].blk]) := hide (fun j hj => by
              obtain ⟨g', off', e, c, _⟩ := (HAr.out.kept (HO.out.1.2.2.trans hkr (fun _ _ h => h))).get hj
              cases e
              exact cell_one c)
            have HStep := hide (fun c hc => best_step hkA HB.out c hc)
            obtain ⟨x, hx⟩ : ∃ x, x = A[k] := ⟨_, rfl⟩
            rw [← hx] at c0 c1 HStep
            obtain ⟨p, ⟨ya, yn, yc⟩, yB⟩ := x
            simp only at c0 c1
            have Hx := hide hx
            clear hx
            go_wp2_with (first
              | ((with_reducible refine aw_alloc (t := 63) Hi40.out Hz40.out ?_); intro w3 hw3 hk3 hz3; have Yz3 := hide hz3; clear hz3 c0 c1)
              | ((with_reducible refine aw_store (M := [.int .i64 p, .slice ya yn yc]) Try.agg63 rfl rfl rfl (by simp [Value.oneCell']) hw3 (by simp [Value.cells]) ?_); intro w4 hw4 hk4 hz4; rw [put_whole _ _ (by simp [Value.cells])] at hw4; have hkr2 := hkr.trans (hk3.trans hk4 (fun i hi h => by omega)) (fun _ _ h => h); have hkrr : Kept (fun _ => False) wr w4 := hk3.trans hk4 (fun i hi h => by omega); clear hz4)
              | fail)
            obtain ⟨b9, hb9⟩ : ∃ b, b = wr.heap.size := ⟨_, rfl⟩
            rw [← hb9] at hw4 ⊢
            have HC9 : Hid (Cells w4 b9 0 [.int .i64 p]) := hide (cell_one (hw4.cell 0))
            have HCj4 : Hid (∀ j (hj : j < A.length), Cells w4 g (off + j * 2) [.int .i64 A[j].blk]) := hide (fun j hj => hkrr.cells (HCells.out j hj) (fun h => h))
            clear hw3 hw4 hk3 hk4 hkr hkrr hb9 Yz3 HCells
            rcases HLast.out with ⟨h0, hl0⟩ | ⟨m, q, og, oo, h0, hoa, hco, hl0⟩
            · subst h0 hl0
              have HE0 : Hid (decide (((0 : Nat) : Int) = 0) = true) := hide (by decide)
              cases bo with
              | none =>
                have HT : Hid (bestW none ((A.drop (k + 1)).map Wv.wr) (curW A (some k)) = R) := hide (HStep.out true (by
                  symm
                  rw [decide_eq_true_eq]
                  exact ⟨rfl, fun x h => by cases h⟩))
                have HL0 : Hid (decide ((-1 : Int) < 0) = true) := hide (by decide)
                simp only [bestI]
                clear HStep
                go_wp2
                refine hold_frame (p := fun fr => Code.wp Try.prog _ _ fr _) ?_
                intro fr hfr
                have e3 : fr.eval (.tmp 3) = .slice (some ⟨g, off, none⟩) N ac := by rw [hfr.out]; rfl
                have e4 : fr.eval (.tmp 4) = .slice oa 0 oc := by rw [hfr.out]; rfl
                have e7 : fr.eval (.tmp 7) = .int .i64 (-1) := by rw [hfr.out]; rfl
                have e9 : fr.eval (.tmp 9) = .pointer (some ⟨b9, 0, none⟩) := by rw [hfr.out]; rfl
                have hts : fr.tmps.size = 68 := by rw [hfr.out]; rfl
                refine region_S0 99 Try.mixed ?_
                intro w0 hkw hheap
                have c9w := hkw.cells HC9.out (fun h => h)
                have hS0 : Kept (fun _ => False) w0 w0 := Kept.refl (fun _ => False) w0
                refine ⟨Kept (fun _ => False) w0, ?_⟩
                refine tkS 0 27 (v := .slice oa 0 oc) hS0 rfl rfl (by kernel_rfl) (by kernel_rfl) (by kernel_rfl) (by kernel_rfl) (wanted_none rfl) (fun _ _ _ h => h) (fun U hU => r_move (by simp [eval_put_ne, eval_put_eq, size_put, hts, e4])) ?_
                refine tkS 1 28 (v := .int .i64 ((0 : Nat) : Int)) hS0 rfl rfl (by kernel_rfl) (by kernel_rfl) (by kernel_rfl) (by kernel_rfl) (wanted_none rfl) (fun _ _ _ h => h) (fun U hU => r_len22 (ao := oa) (c := oc) (by simp [eval_put_ne, eval_put_eq, size_put, hts])) ?_
                refine tkS 2 29 (v := .bool true) hS0 rfl rfl (by kernel_rfl) (by kernel_rfl) (by kernel_rfl) (by kernel_rfl) (wanted_none rfl) (fun _ _ _ h => h) (fun U hU => (r_eql3 (p := ((0 : Nat) : Int)) (q := 0) (by simp [eval_put_ne, eval_put_eq, size_put, hts]) rfl).trans (by rw [HE0.out])) ?_
                refine tkS 3 30 (v := .bool true) hS0 rfl rfl (by kernel_rfl) (by kernel_rfl) (by kernel_rfl) (by kernel_rfl) (wanted_none rfl) (fun _ _ _ h => h) (fun U hU => r_move (by simp [eval_put_ne, eval_put_eq, size_put, hts])) ?_
                refine tkNS 4 31 hS0 rfl rfl (by kernel_rfl) (by kernel_rfl) (by kernel_rfl) (by kernel_rfl) (wanted_not (j := 3) (d := 30) (bb := false) rfl rfl rfl (by simp [eval_put_ne, eval_put_eq, size_put, hts]) (by simp [size_put, hts])) (fun _ _ _ h => h) ?_
                refine tkNS 5 32 hS0 rfl rfl (by kernel_rfl) (by kernel_rfl) (by kernel_rfl) (by kernel_rfl) (wanted_not (j := 3) (d := 30) (bb := false) rfl rfl rfl (by simp [eval_put_ne, eval_put_eq, size_put, hts]) (by simp [size_put, hts])) (fun _ _ _ h => h) ?_
                refine tkNS 6 33 hS0 rfl rfl (by kernel_rfl) (by kernel_rfl) (by kernel_rfl) (by kernel_rfl) (wanted_not (j := 3) (d := 30) (bb := false) rfl rfl rfl (by simp [eval_put_ne, eval_put_eq, size_put, hts]) (by simp [size_put, hts])) (fun _ _ _ h => h) ?_
                refine tkNS 7 34 hS0 rfl rfl (by kernel_rfl) (by kernel_rfl) (by kernel_rfl) (by kernel_rfl) (wanted_not (j := 3) (d := 30) (bb := false) rfl rfl rfl (by simp [eval_put_ne, eval_put_eq, size_put, hts]) (by simp [size_put, hts])) (fun _ _ _ h => h) ?_
                refine tkNS 8 35 hS0 rfl rfl (by kernel_rfl) (by kernel_rfl) (by kernel_rfl) (by kernel_rfl) (wanted_not (j := 3) (d := 30) (bb := false) rfl rfl rfl (by simp [eval_put_ne, eval_put_eq, size_put, hts]) (by simp [size_put, hts])) (fun _ _ _ h => h) ?_
                refine tkNS 9 36 hS0 rfl rfl (by kernel_rfl) (by kernel_rfl) (by kernel_rfl) (by kernel_rfl) (wanted_not (j := 3) (d := 30) (bb := false) rfl rfl rfl (by simp [eval_put_ne, eval_put_eq, size_put, hts]) (by simp [size_put, hts])) (fun _ _ _ h => h) ?_
                refine tkNS 10 37 hS0 rfl rfl (by kernel_rfl) (by kernel_rfl) (by kernel_rfl) (by kernel_rfl) (wanted_not (j := 3) (d := 30) (bb := false) rfl rfl rfl (by simp [eval_put_ne, eval_put_eq, size_put, hts]) (by simp [size_put, hts])) (fun _ _ _ h => h) ?_
                refine tkNS 11 38 hS0 rfl rfl (by kernel_rfl) (by kernel_rfl) (by kernel_rfl) (by kernel_rfl) (wanted_not (j := 3) (d := 30) (bb := false) rfl rfl rfl (by simp [eval_put_ne, eval_put_eq, size_put, hts]) (by simp [size_put, hts])) (fun _ _ _ h => h) ?_
                refine tkNS 12 39 hS0 rfl rfl (by kernel_rfl) (by kernel_rfl) (by kernel_rfl) (by kernel_rfl) (wanted_not (j := 3) (d := 30) (bb := false) rfl rfl rfl (by simp [eval_put_ne, eval_put_eq, size_put, hts]) (by simp [size_put, hts])) (fun _ _ _ h => h) ?_
                refine tkNS 13 40 hS0 rfl rfl (by kernel_rfl) (by kernel_rfl) (by kernel_rfl) (by kernel_rfl) (wanted_not (j := 3) (d := 30) (bb := false) rfl rfl rfl (by simp [eval_put_ne, eval_put_eq, size_put, hts]) (by simp [size_put, hts])) (fun _ _ _ h => h) ?_
                refine tkS 14 41 (v := .bool true) hS0 rfl rfl (by kernel_rfl) (by kernel_rfl) (by kernel_rfl) (by kernel_rfl) (wanted_none rfl) (fun _ _ _ h => h) (fun U hU => r_pick (by simp [eval_put_ne, eval_put_eq, size_put, hts]) rfl) ?_
                refine tkS 15 42 (v := .bool true) hS0 rfl rfl (by kernel_rfl) (by kernel_rfl) (by kernel_rfl) (by kernel_rfl) (wanted_none rfl) (fun _ _ _ h => h) (fun U hU => r_move (by simp [eval_put_ne, eval_put_eq, size_put, hts])) ?_
                refine tkS 16 43 (v := .int .i64 (-1)) hS0 rfl rfl (by kernel_rfl) (by kernel_rfl) (by kernel_rfl) (by kernel_rfl) (wanted_some (j := 15) (d := 42) (bb := true) rfl rfl rfl (by simp [eval_put_ne, eval_put_eq, size_put, hts]) (by simp [size_put, hts])) (fun _ _ _ h => h) (fun U hU => r_move (by simp [eval_put_ne, eval_put_eq, size_put, hts, e7])) ?_
                refine tkS 17 44 (v := .bool true) hS0 rfl rfl (by kernel_rfl) (by kernel_rfl) (by kernel_rfl) (by kernel_rfl) (wanted_some (j := 15) (d := 42) (bb := true) rfl rfl rfl (by simp [eval_put_ne, eval_put_eq, size_put, hts]) (by simp [size_put, hts])) (fun _ _ _ h => h) (fun U hU => (r_lss3 (p := (-1)) (q := 0) (by simp [eval_put_ne, eval_put_eq, size_put, hts]) rfl).trans (by rw [HL0.out])) ?_
                refine tkS 18 45 (v := .bool true) hS0 rfl rfl (by kernel_rfl) (by kernel_rfl) (by kernel_rfl) (by kernel_rfl) (wanted_some (j := 15) (d := 42) (bb := true) rfl rfl rfl (by simp [eval_put_ne, eval_put_eq, size_put, hts]) (by simp [size_put, hts])) (fun _ _ _ h => h) (fun U hU => r_move (by simp [eval_put_ne, eval_put_eq, size_put, hts])) ?_
                refine tkNS 19 46 hS0 rfl rfl (by kernel_rfl) (by kernel_rfl) (by kernel_rfl) (by kernel_rfl) (wanted_not (j := 18) (d := 45) (bb := false) rfl rfl rfl (by simp [eval_put_ne, eval_put_eq, size_put, hts]) (by simp [size_put, hts])) (fun _ _ _ h => h) ?_
                refine tkNS 20 47 hS0 rfl rfl (by kernel_rfl) (by kernel_rfl) (by kernel_rfl) (by kernel_rfl) (wanted_not (j := 18) (d := 45) (bb := false) rfl rfl rfl (by simp [eval_put_ne, eval_put_eq, size_put, hts]) (by simp [size_put, hts])) (fun _ _ _ h => h) ?_
                refine tkNS 21 48 hS0 rfl rfl (by kernel_rfl) (by kernel_rfl) (by kernel_rfl) (by kernel_rfl) (wanted_not (j := 18) (d := 45) (bb := false) rfl rfl rfl (by simp [eval_put_ne, eval_put_eq, size_put, hts]) (by simp [size_put, hts])) (fun _ _ _ h => h) ?_
                refine tkNS 22 49 hS0 rfl rfl (by kernel_rfl) (by kernel_rfl) (by kernel_rfl) (by kernel_rfl) (wanted_not (j := 18) (d := 45) (bb := false) rfl rfl rfl (by simp [eval_put_ne, eval_put_eq, size_put, hts]) (by simp [size_put, hts])) (fun _ _ _ h => h) ?_
                refine tkNS 23 50 hS0 rfl rfl (by kernel_rfl) (by kernel_rfl) (by kernel_rfl) (by kernel_rfl) (wanted_not (j := 18) (d := 45) (bb := false) rfl rfl rfl (by simp [eval_put_ne, eval_put_eq, size_put, hts]) (by simp [size_put, hts])) (fun _ _ _ h => h) ?_
                refine tkNS 24 51 hS0 rfl rfl (by kernel_rfl) (by kernel_rfl) (by kernel_rfl) (by kernel_rfl) (wanted_not (j := 18) (d := 45) (bb := false) rfl rfl rfl (by simp [eval_put_ne, eval_put_eq, size_put, hts]) (by simp [size_put, hts])) (fun _ _ _ h => h) ?_
                refine tkNS 25 52 hS0 rfl rfl (by kernel_rfl) (by kernel_rfl) (by kernel_rfl) (by kernel_rfl) (wanted_not (j := 18) (d := 45) (bb := false) rfl rfl rfl (by simp [eval_put_ne, eval_put_eq, size_put, hts]) (by simp [size_put, hts])) (fun _ _ _ h => h) ?_
                refine tkNS 26 53 hS0 rfl rfl (by kernel_rfl) (by kernel_rfl) (by kernel_rfl) (by kernel_rfl) (wanted_not (j := 18) (d := 45) (bb := false) rfl rfl rfl (by simp [eval_put_ne, eval_put_eq, size_put, hts]) (by simp [size_put, hts])) (fun _ _ _ h => h) ?_
                refine tkS 27 54 (v := .bool true) hS0 rfl rfl (by kernel_rfl) (by kernel_rfl) (by kernel_rfl) (by kernel_rfl) (wanted_some (j := 15) (d := 42) (bb := true) rfl rfl rfl (by simp [eval_put_ne, eval_put_eq, size_put, hts]) (by simp [size_put, hts])) (fun _ _ _ h => h) (fun U hU => r_pick (by simp [eval_put_ne, eval_put_eq, size_put, hts]) rfl) ?_
                refine tkS 28 55 (v := .bool true) hS0 rfl rfl (by kernel_rfl) (by kernel_rfl) (by kernel_rfl) (by kernel_rfl) (wanted_none rfl) (fun _ _ _ h => h) (fun U hU => r_pick (by simp [eval_put_ne, eval_put_eq, size_put, hts]) (by simp [eval_put_ne, eval_put_eq, size_put, hts])) ?_
                refine doneS (by kernel_rfl) ?_
                have hkr3 := hkr2.trans hkw (fun _ _ h => h)
                clear c9w
                clear hS0 hkw hheap
                rw [hfr.out]
                clear hfr e3 e4 e7 e9 hts
                simp only [put_lit, put_none, List.set_cons_succ, List.set_cons_zero]
                go_wp2
                go_roundw
                case rel => exact ⟨k + 1, some k, by simp, by omega, rfl, fun i e => by cases e; omega, HT.out, hkr3⟩
                case measure => simp [intOf]; omega
              | some j =>
                have hjN : j < N := HBJ.out j rfl
                have hjA : j < A.length := by rw [← HN.out]; exact hjN
                have hcur : curW A (some j) = some A[j].wr := by simp [curW, List.getElem?_eq_getElem hjA]
                have hcj := HCj4.out j hjA
                obtain ⟨y, hy⟩ : ∃ y, y = A[j] := ⟨_, rfl⟩
                rw [← hy] at hcur hcj
                obtain ⟨r, ys, yB2⟩ := y
                simp only at hcj
                have HCj := hide hcj
                have Hcur := hide hcur
                clear hy hcj hcur hjA
                have HL0 : Hid (decide (((j : Nat) : Int) < 0) = false) := hide (decide_eq_false (by omega))
                simp only [bestI]
                by_cases hle : p ≤ r
                · have HLe : Hid (decide (p ≤ r) = true) := hide (decide_eq_true hle)
                  have HT : Hid (bestW none ((A.drop (k + 1)).map Wv.wr) (curW A (some k)) = R) := hide (HStep.out true (by
                    symm
                    rw [decide_eq_true_eq]
                    exact ⟨rfl, fun x h => by rw [Hcur.out] at h; cases h; exact hle⟩))
                  clear HStep hle
                  go_wp2
                  refine hold_frame (p := fun fr => Code.wp Try.prog _ _ fr _) ?_
                  intro fr hfr
                  have e3 : fr.eval (.tmp 3) = .slice (some ⟨g, off, none⟩) N ac := by rw [hfr.out]; rfl
                  have e4 : fr.eval (.tmp 4) = .slice oa 0 oc := by rw [hfr.out]; rfl
                  have e7 : fr.eval (.tmp 7) = .int .i64 ((j : Nat) : Int) := by rw [hfr.out]; rfl
                  have e9 : fr.eval (.tmp 9) = .pointer (some ⟨b9, 0, none⟩) := by rw [hfr.out]; rfl
                  have hts : fr.tmps.size = 68 := by rw [hfr.out]; rfl
                  refine region_S0 99 Try.mixed ?_
                  intro w0 hkw hheap
                  have c9w := hkw.cells HC9.out (fun h => h)
                  have cjw := hkw.cells HCj.out (fun h => h)
                  have hS0 : Kept (fun _ => False) w0 w0 := Kept.refl (fun _ => False) w0
                  refine ⟨Kept (fun _ => False) w0, ?_⟩
                  refine tkS 0 27 (v := .slice oa 0 oc) hS0 rfl rfl (by kernel_rfl) (by kernel_rfl) (by kernel_rfl) (by kernel_rfl) (wanted_none rfl) (fun _ _ _ h => h) (fun U hU => r_move (by simp [eval_put_ne, eval_put_eq, size_put, hts, e4])) ?_
                  refine tkS 1 28 (v := .int .i64 ((0 : Nat) : Int)) hS0 rfl rfl (by kernel_rfl) (by kernel_rfl) (by kernel_rfl) (by kernel_rfl) (wanted_none rfl) (fun _ _ _ h => h) (fun U hU => r_len22 (ao := oa) (c := oc) (by simp [eval_put_ne, eval_put_eq, size_put, hts])) ?_
                  refine tkS 2 29 (v := .bool true) hS0 rfl rfl (by kernel_rfl) (by kernel_rfl) (by kernel_rfl) (by kernel_rfl) (wanted_none rfl) (fun _ _ _ h => h) (fun U hU => (r_eql3 (p := ((0 : Nat) : Int)) (q := 0) (by simp [eval_put_ne, eval_put_eq, size_put, hts]) rfl).trans (by rw [HE0.out])) ?_
                  refine tkS 3 30 (v := .bool true) hS0 rfl rfl (by kernel_rfl) (by kernel_rfl) (by kernel_rfl) (by kernel_rfl) (wanted_none rfl) (fun _ _ _ h => h) (fun U hU => r_move (by simp [eval_put_ne, eval_put_eq, size_put, hts])) ?_
                  refine tkNS 4 31 hS0 rfl rfl (by kernel_rfl) (by kernel_rfl) (by kernel_rfl) (by kernel_rfl) (wanted_not (j := 3) (d := 30) (bb := false) rfl rfl rfl (by simp [eval_put_ne, eval_put_eq, size_put, hts]) (by simp [size_put, hts])) (fun _ _ _ h => h) ?_
                  refine tkNS 5 32 hS0 rfl rfl (by kernel_rfl) (by kernel_rfl) (by kernel_rfl) (by kernel_rfl) (wanted_not (j := 3) (d := 30) (bb := false) rfl rfl rfl (by simp [eval_put_ne, eval_put_eq, size_put, hts]) (by simp [size_put, hts])) (fun _ _ _ h => h) ?_
                  refine tkNS 6 33 hS0 rfl rfl (by kernel_rfl) (by kernel_rfl) (by kernel_rfl) (by kernel_rfl) (wanted_not (j := 3) (d := 30) (bb := false) rfl rfl rfl (by simp [eval_put_ne, eval_put_eq, size_put, hts]) (by simp [size_put, hts])) (fun _ _ _ h => h) ?_
                  refine tkNS 7 34 hS0 rfl rfl (by kernel_rfl) (by kernel_rfl) (by kernel_rfl) (by kernel_rfl) (wanted_not (j := 3) (d := 30) (bb := false) rfl rfl rfl (by simp [eval_put_ne, eval_put_eq, size_put, hts]) (by simp [size_put, hts])) (fun _ _ _ h => h) ?_
                  refine tkNS 8 35 hS0 rfl rfl (by kernel_rfl) (by kernel_rfl) (by kernel_rfl) (by kernel_rfl) (wanted_not (j := 3) (d := 30) (bb := false) rfl rfl rfl (by simp [eval_put_ne, eval_put_eq, size_put, hts]) (by simp [size_put, hts])) (fun _ _ _ h => h) ?_
                  refine tkNS 9 36 hS0 rfl rfl (by kernel_rfl) (by kernel_rfl) (by kernel_rfl) (by kernel_rfl) (wanted_not (j := 3) (d := 30) (bb := false) rfl rfl rfl (by simp [eval_put_ne, eval_put_eq, size_put, hts]) (by simp [size_put, hts])) (fun _ _ _ h => h) ?_
                  refine tkNS 10 37 hS0 rfl rfl (by kernel_rfl) (by kernel_rfl) (by kernel_rfl) (by kernel_rfl) (wanted_not (j := 3) (d := 30) (bb := false) rfl rfl rfl (by simp [eval_put_ne, eval_put_eq, size_put, hts]) (by simp [size_put, hts])) (fun _ _ _ h => h) ?_
                  refine tkNS 11 38 hS0 rfl rfl (by kernel_rfl) (by kernel_rfl) (by kernel_rfl) (by kernel_rfl) (wanted_not (j := 3) (d := 30) (bb := false) rfl rfl rfl (by simp [eval_put_ne, eval_put_eq, size_put, hts]) (by simp [size_put, hts])) (fun _ _ _ h => h) ?_
                  refine tkNS 12 39 hS0 rfl rfl (by kernel_rfl) (by kernel_rfl) (by kernel_rfl) (by kernel_rfl) (wanted_not (j := 3) (d := 30) (bb := false) rfl rfl rfl (by simp [eval_put_ne, eval_put_eq, size_put, hts]) (by simp [size_put, hts])) (fun _ _ _ h => h) ?_
                  refine tkNS 13 40 hS0 rfl rfl (by kernel_rfl) (by kernel_rfl) (by kernel_rfl) (by kernel_rfl) (wanted_not (j := 3) (d := 30) (bb := false) rfl rfl rfl (by simp [eval_put_ne, eval_put_eq, size_put, hts]) (by simp [size_put, hts])) (fun _ _ _ h => h) ?_
                  refine tkS 14 41 (v := .bool true) hS0 rfl rfl (by kernel_rfl) (by kernel_rfl) (by kernel_rfl) (by kernel_rfl) (wanted_none rfl) (fun _ _ _ h => h) (fun U hU => r_pick (by simp [eval_put_ne, eval_put_eq, size_put, hts]) rfl) ?_
                  refine tkS 15 42 (v := .bool true) hS0 rfl rfl (by kernel_rfl) (by kernel_rfl) (by kernel_rfl) (by kernel_rfl) (wanted_none rfl) (fun _ _ _ h => h) (fun U hU => r_move (by simp [eval_put_ne, eval_put_eq, size_put, hts])) ?_
                  refine tkS 16 43 (v := .int .i64 ((j : Nat) : Int)) hS0 rfl rfl (by kernel_rfl) (by kernel_rfl) (by kernel_rfl) (by kernel_rfl) (wanted_some (j := 15) (d := 42) (bb := true) rfl rfl rfl (by simp [eval_put_ne, eval_put_eq, size_put, hts]) (by simp [size_put, hts])) (fun _ _ _ h => h) (fun U hU => r_move (by simp [eval_put_ne, eval_put_eq, size_put, hts, e7])) ?_
                  refine tkS 17 44 (v := .bool false) hS0 rfl rfl (by kernel_rfl) (by kernel_rfl) (by kernel_rfl) (by kernel_rfl) (wanted_some (j := 15) (d := 42) (bb := true) rfl rfl rfl (by simp [eval_put_ne, eval_put_eq, size_put, hts]) (by simp [size_put, hts])) (fun _ _ _ h => h) (fun U hU => (r_lss3 (p := ((j : Nat) : Int)) (q := 0) (by simp [eval_put_ne, eval_put_eq, size_put, hts]) rfl).trans (by rw [HL0.out])) ?_
                  refine tkS 18 45 (v := .bool false) hS0 rfl rfl (by kernel_rfl) (by kernel_rfl) (by kernel_rfl) (by kernel_rfl) (wanted_some (j := 15) (d := 42) (bb := true) rfl rfl rfl (by simp [eval_put_ne, eval_put_eq, size_put, hts]) (by simp [size_put, hts])) (fun _ _ _ h => h) (fun U hU => r_move (by simp [eval_put_ne, eval_put_eq, size_put, hts])) ?_
                  refine tkS 19 46 (v := .pointer (some ⟨b9, 0, none⟩)) hS0 rfl rfl (by kernel_rfl) (by kernel_rfl) (by kernel_rfl) (by kernel_rfl) (wanted_some (j := 18) (d := 45) (bb := false) rfl rfl rfl (by simp [eval_put_ne, eval_put_eq, size_put, hts]) (by simp [size_put, hts])) (fun _ _ _ h => h) (fun U hU => r_f40_0 (by simp [eval_put_ne, eval_put_eq, size_put, hts, e9])) ?_
                  refine tkS 20 47 (v := .int .i64 p) hS0 rfl rfl (by kernel_rfl) (by kernel_rfl) (by kernel_rfl) (by kernel_rfl) (wanted_some (j := 18) (d := 45) (bb := false) rfl rfl rfl (by simp [eval_put_ne, eval_put_eq, size_put, hts]) (by simp [size_put, hts])) (fun _ _ _ h => h) (fun U hU => r_ld3 (b := b9) (o := 0) (by simp [eval_put_ne, eval_put_eq, size_put, hts]) (by have := (hU.cells c9w (fun h => h)) 0 _ rfl; simpa using this)) ?_
                  refine tkS 21 48 (v := .slice (some ⟨g, off, none⟩) N ac) hS0 rfl rfl (by kernel_rfl) (by kernel_rfl) (by kernel_rfl) (by kernel_rfl) (wanted_some (j := 18) (d := 45) (bb := false) rfl rfl rfl (by simp [eval_put_ne, eval_put_eq, size_put, hts]) (by simp [size_put, hts])) (fun _ _ _ h => h) (fun U hU => r_move (by simp [eval_put_ne, eval_put_eq, size_put, hts, e3])) ?_
                  refine tkS 22 49 (v := .int .i64 ((j : Nat) : Int)) hS0 rfl rfl (by kernel_rfl) (by kernel_rfl) (by kernel_rfl) (by kernel_rfl) (wanted_some (j := 18) (d := 45) (bb := false) rfl rfl rfl (by simp [eval_put_ne, eval_put_eq, size_put, hts]) (by simp [size_put, hts])) (fun _ _ _ h => h) (fun U hU => r_move (by simp [eval_put_ne, eval_put_eq, size_put, hts, e7])) ?_
                  refine tkS 23 50 (v := .pointer (some ⟨g, off + j * 2, none⟩)) hS0 rfl rfl (by kernel_rfl) (by kernel_rfl) (by kernel_rfl) (by kernel_rfl) (wanted_some (j := 18) (d := 45) (bb := false) rfl rfl rfl (by simp [eval_put_ne, eval_put_eq, size_put, hts]) (by simp [size_put, hts])) (fun _ _ _ h => h) (fun U hU => r_ix22 j (b := g) (off := off) (len := N) (cap := ac) (kk := .i64) (by simp [eval_put_ne, eval_put_eq, size_put, hts]) (by simp [eval_put_ne, eval_put_eq, size_put, hts]) hjN) ?_
                  refine tkS 24 51 (v := .pointer (some ⟨g, off + j * 2, none⟩)) hS0 rfl rfl (by kernel_rfl) (by kernel_rfl) (by kernel_rfl) (by kernel_rfl) (wanted_some (j := 18) (d := 45) (bb := false) rfl rfl rfl (by simp [eval_put_ne, eval_put_eq, size_put, hts]) (by simp [size_put, hts])) (fun _ _ _ h => h) (fun U hU => r_f40_0 (by simp [eval_put_ne, eval_put_eq, size_put, hts])) ?_
                  refine tkS 25 52 (v := .int .i64 r) hS0 rfl rfl (by kernel_rfl) (by kernel_rfl) (by kernel_rfl) (by kernel_rfl) (wanted_some (j := 18) (d := 45) (bb := false) rfl rfl rfl (by simp [eval_put_ne, eval_put_eq, size_put, hts]) (by simp [size_put, hts])) (fun _ _ _ h => h) (fun U hU => r_ld3 (b := g) (o := off + j * 2) (by simp [eval_put_ne, eval_put_eq, size_put, hts]) (by have := (hU.cells cjw (fun h => h)) 0 _ rfl; simpa using this)) ?_
                  refine tkS 26 53 (v := .bool true) hS0 rfl rfl (by kernel_rfl) (by kernel_rfl) (by kernel_rfl) (by kernel_rfl) (wanted_some (j := 18) (d := 45) (bb := false) rfl rfl rfl (by simp [eval_put_ne, eval_put_eq, size_put, hts]) (by simp [size_put, hts])) (fun _ _ _ h => h) (fun U hU => (r_leq3 (p := p) (q := r) (by simp [eval_put_ne, eval_put_eq, size_put, hts]) (by simp [eval_put_ne, eval_put_eq, size_put, hts])).trans (by rw [HLe.out])) ?_
                  refine tkS 27 54 (v := .bool true) hS0 rfl rfl (by kernel_rfl) (by kernel_rfl) (by kernel_rfl) (by kernel_rfl) (wanted_some (j := 15) (d := 42) (bb := true) rfl rfl rfl (by simp [eval_put_ne, eval_put_eq, size_put, hts]) (by simp [size_put, hts])) (fun _ _ _ h => h) (fun U hU => r_pickF (by simp [eval_put_ne, eval_put_eq, size_put, hts]) (by simp [eval_put_ne, eval_put_eq, size_put, hts])) ?_
                  refine tkS 28 55 (v := .bool true) hS0 rfl rfl (by kernel_rfl) (by kernel_rfl) (by kernel_rfl) (by kernel_rfl) (wanted_none rfl) (fun _ _ _ h => h) (fun U hU => r_pick (by simp [eval_put_ne, eval_put_eq, size_put, hts]) (by simp [eval_put_ne, eval_put_eq, size_put, hts])) ?_
                  refine doneS (by kernel_rfl) ?_
                  have hkr3 := hkr2.trans hkw (fun _ _ h => h)
                  clear c9w cjw
                  clear hS0 hkw hheap
                  rw [hfr.out]
                  clear hfr e3 e4 e7 e9 hts
                  simp only [put_lit, put_none, List.set_cons_succ, List.set_cons_zero]
                  go_wp2
                  go_roundw
                  case rel => exact ⟨k + 1, some k, by simp, by omega, rfl, fun i e => by cases e; omega, HT.out, hkr3⟩
                  case measure => simp [intOf]; omega
                · have HLe : Hid (decide (p ≤ r) = false) := hide (decide_eq_false hle)
                  have HT : Hid (bestW none ((A.drop (k + 1)).map Wv.wr) (curW A (some j)) = R) := hide (HStep.out false (by
                    symm
                    rw [decide_eq_false_iff_not]
                    rintro ⟨_, h⟩
                    exact hle (h _ Hcur.out)))
                  have HBI : Hid (Value.int .i64 ((j : Nat) : Int) = .int .i64 (bestI (some j))) := hide rfl
                  clear HStep hle
                  go_wp2
                  refine hold_frame (p := fun fr => Code.wp Try.prog _ _ fr _) ?_
                  intro fr hfr
                  have e3 : fr.eval (.tmp 3) = .slice (some ⟨g, off, none⟩) N ac := by rw [hfr.out]; rfl
                  have e4 : fr.eval (.tmp 4) = .slice oa 0 oc := by rw [hfr.out]; rfl
                  have e7 : fr.eval (.tmp 7) = .int .i64 ((j : Nat) : Int) := by rw [hfr.out]; rfl
                  have e9 : fr.eval (.tmp 9) = .pointer (some ⟨b9, 0, none⟩) := by rw [hfr.out]; rfl
                  have hts : fr.tmps.size = 68 := by rw [hfr.out]; rfl
                  refine region_S0 99 Try.mixed ?_
                  intro w0 hkw hheap
                  have c9w := hkw.cells HC9.out (fun h => h)
                  have cjw := hkw.cells HCj.out (fun h => h)
                  have hS0 : Kept (fun _ => False) w0 w0 := Kept.refl (fun _ => False) w0
                  refine ⟨Kept (fun _ => False) w0, ?_⟩
                  refine tkS 0 27 (v := .slice oa 0 oc) hS0 rfl rfl (by kernel_rfl) (by kernel_rfl) (by kernel_rfl) (by kernel_rfl) (wanted_none rfl) (fun _ _ _ h => h) (fun U hU => r_move (by simp [eval_put_ne, eval_put_eq, size_put, hts, e4])) ?_
                  refine tkS 1 28 (v := .int .i64 ((0 : Nat) : Int)) hS0 rfl rfl (by kernel_rfl) (by kernel_rfl) (by kernel_rfl) (by kernel_rfl) (wanted_none rfl) (fun _ _ _ h => h) (fun U hU => r_len22 (ao := oa) (c := oc) (by simp [eval_put_ne, eval_put_eq, size_put, hts])) ?_
                  refine tkS 2 29 (v := .bool true) hS0 rfl rfl (by kernel_rfl) (by kernel_rfl) (by kernel_rfl) (by kernel_rfl) (wanted_none rfl) (fun _ _ _ h => h) (fun U hU => (r_eql3 (p := ((0 : Nat) : Int)) (q := 0) (by simp [eval_put_ne, eval_put_eq, size_put, hts]) rfl).trans (by rw [HE0.out])) ?_
                  refine tkS 3 30 (v := .bool true) hS0 rfl rfl (by kernel_rfl) (by kernel_rfl) (by kernel_rfl) (by kernel_rfl) (wanted_none rfl) (fun _ _ _ h => h) (fun U hU => r_move (by simp [eval_put_ne, eval_put_eq, size_put, hts])) ?_
                  refine tkNS 4 31 hS0 rfl rfl (by kernel_rfl) (by kernel_rfl) (by kernel_rfl) (by kernel_rfl) (wanted_not (j := 3) (d := 30) (bb := false) rfl rfl rfl (by simp [eval_put_ne, eval_put_eq, size_put, hts]) (by simp [size_put, hts])) (fun _ _ _ h => h) ?_
                  refine tkNS 5 32 hS0 rfl rfl (by kernel_rfl) (by kernel_rfl) (by kernel_rfl) (by kernel_rfl) (wanted_not (j := 3) (d := 30) (bb := false) rfl rfl rfl (by simp [eval_put_ne, eval_put_eq, size_put, hts]) (by simp [size_put, hts])) (fun _ _ _ h => h) ?_
                  refine tkNS 6 33 hS0 rfl rfl (by kernel_rfl) (by kernel_rfl) (by kernel_rfl) (by kernel_rfl) (wanted_not (j := 3) (d := 30) (bb := false) rfl rfl rfl (by simp [eval_put_ne, eval_put_eq, size_put, hts]) (by simp [size_put, hts])) (fun _ _ _ h => h) ?_
                  refine tkNS 7 34 hS0 rfl rfl (by kernel_rfl) (by kernel_rfl) (by kernel_rfl) (by kernel_rfl) (wanted_not (j := 3) (d := 30) (bb := false) rfl rfl rfl (by simp [eval_put_ne, eval_put_eq, size_put, hts]) (by simp [size_put, hts])) (fun _ _ _ h => h) ?_
                  refine tkNS 8 35 hS0 rfl rfl (by kernel_rfl) (by kernel_rfl) (by kernel_rfl) (by kernel_rfl) (wanted_not (j := 3) (d := 30) (bb := false) rfl rfl rfl (by simp [eval_put_ne, eval_put_eq, size_put, hts]) (by simp [size_put, hts])) (fun _ _ _ h => h) ?_
                  refine tkNS 9 36 hS0 rfl rfl (by kernel_rfl) (by kernel_rfl) (by kernel_rfl) (by kernel_rfl) (wanted_not (j := 3) (d := 30) (bb := false) rfl rfl rfl (by simp [eval_put_ne, eval_put_eq, size_put, hts]) (by simp [size_put, hts])) (fun _ _ _ h => h) ?_
                  refine tkNS 10 37 hS0 rfl rfl (by kernel_rfl) (by kernel_rfl) (by kernel_rfl) (by kernel_rfl) (wanted_not (j := 3) (d := 30) (bb := false) rfl rfl rfl (by simp [eval_put_ne, eval_put_eq, size_put, hts]) (by simp [size_put, hts])) (fun _ _ _ h => h) ?_
                  refine tkNS 11 38 hS0 rfl rfl (by kernel_rfl) (by kernel_rfl) (by kernel_rfl) (by kernel_rfl) (wanted_not (j := 3) (d := 30) (bb := false) rfl rfl rfl (by simp [eval_put_ne, eval_put_eq, size_put, hts]) (by simp [size_put, hts])) (fun _ _ _ h => h) ?_
                  refine tkNS 12 39 hS0 rfl rfl (by kernel_rfl) (by kernel_rfl) (by kernel_rfl) (by kernel_rfl) (wanted_not (j := 3) (d := 30) (bb := false) rfl rfl rfl (by simp [eval_put_ne, eval_put_eq, size_put, hts]) (by simp [size_put, hts])) (fun _ _ _ h => h) ?_
                  refine tkNS 13 40 hS0 rfl rfl (by kernel_rfl) (by kernel_rfl) (by kernel_rfl) (by kernel_rfl) (wanted_not (j := 3) (d := 30) (bb := false) rfl rfl rfl (by simp [eval_put_ne, eval_put_eq, size_put, hts]) (by simp [size_put, hts])) (fun _ _ _ h => h) ?_
                  refine tkS 14 41 (v := .bool true) hS0 rfl rfl (by kernel_rfl) (by kernel_rfl) (by kernel_rfl) (by kernel_rfl) (wanted_none rfl) (fun _ _ _ h => h) (fun U hU => r_pick (by simp [eval_put_ne, eval_put_eq, size_put, hts]) rfl) ?_
                  refine tkS 15 42 (v := .bool true) hS0 rfl rfl (by kernel_rfl) (by kernel_rfl) (by kernel_rfl) (by kernel_rfl) (wanted_none rfl) (fun _ _ _ h => h) (fun U hU => r_move (by simp [eval_put_ne, eval_put_eq, size_put, hts])) ?_
                  refine tkS 16 43 (v := .int .i64 ((j : Nat) : Int)) hS0 rfl rfl (by kernel_rfl) (by kernel_rfl) (by kernel_rfl) (by kernel_rfl) (wanted_some (j := 15) (d := 42) (bb := true) rfl rfl rfl (by simp [eval_put_ne, eval_put_eq, size_put, hts]) (by simp [size_put, hts])) (fun _ _ _ h => h) (fun U hU => r_move (by simp [eval_put_ne, eval_put_eq, size_put, hts, e7])) ?_
                  refine tkS 17 44 (v := .bool false) hS0 rfl rfl (by kernel_rfl) (by kernel_rfl) (by kernel_rfl) (by kernel_rfl) (wanted_some (j := 15) (d := 42) (bb := true) rfl rfl rfl (by simp [eval_put_ne, eval_put_eq, size_put, hts]) (by simp [size_put, hts])) (fun _ _ _ h => h) (fun U hU => (r_lss3 (p := ((j : Nat) : Int)) (q := 0) (by simp [eval_put_ne, eval_put_eq, size_put, hts]) rfl).trans (by rw [HL0.out])) ?_
                  refine tkS 18 45 (v := .bool false) hS0 rfl rfl (by kernel_rfl) (by kernel_rfl) (by kernel_rfl) (by kernel_rfl) (wanted_some (j := 15) (d := 42) (bb := true) rfl rfl rfl (by simp [eval_put_ne, eval_put_eq, size_put, hts]) (by simp [size_put, hts])) (fun _ _ _ h => h) (fun U hU => r_move (by simp [eval_put_ne, eval_put_eq, size_put, hts])) ?_
                  refine tkS 19 46 (v := .pointer (some ⟨b9, 0, none⟩)) hS0 rfl rfl (by kernel_rfl) (by kernel_rfl) (by kernel_rfl) (by kernel_rfl) (wanted_some (j := 18) (d := 45) (bb := false) rfl rfl rfl (by simp [eval_put_ne, eval_put_eq, size_put, hts]) (by simp [size_put, hts])) (fun _ _ _ h => h) (fun U hU => r_f40_0 (by simp [eval_put_ne, eval_put_eq, size_put, hts, e9])) ?_
                  refine tkS 20 47 (v := .int .i64 p) hS0 rfl rfl (by kernel_rfl) (by kernel_rfl) (by kernel_rfl) (by kernel_rfl) (wanted_some (j := 18) (d := 45) (bb := false) rfl rfl rfl (by simp [eval_put_ne, eval_put_eq, size_put, hts]) (by simp [size_put, hts])) (fun _ _ _ h => h) (fun U hU => r_ld3 (b := b9) (o := 0) (by simp [eval_put_ne, eval_put_eq, size_put, hts]) (by have := (hU.cells c9w (fun h => h)) 0 _ rfl; simpa using this)) ?_
                  refine tkS 21 48 (v := .slice (some ⟨g, off, none⟩) N ac) hS0 rfl rfl (by kernel_rfl) (by kernel_rfl) (by kernel_rfl) (by kernel_rfl) (wanted_some (j := 18) (d := 45) (bb := false) rfl rfl rfl (by simp [eval_put_ne, eval_put_eq, size_put, hts]) (by simp [size_put, hts])) (fun _ _ _ h => h) (fun U hU => r_move (by simp [eval_put_ne, eval_put_eq, size_put, hts, e3])) ?_
                  refine tkS 22 49 (v := .int .i64 ((j : Nat) : Int)) hS0 rfl rfl (by kernel_rfl) (by kernel_rfl) (by kernel_rfl) (by kernel_rfl) (wanted_some (j := 18) (d := 45) (bb := false) rfl rfl rfl (by simp [eval_put_ne, eval_put_eq, size_put, hts]) (by simp [size_put, hts])) (fun _ _ _ h => h) (fun U hU => r_move (by simp [eval_put_ne, eval_put_eq, size_put, hts, e7])) ?_
                  refine tkS 23 50 (v := .pointer (some ⟨g, off + j * 2, none⟩)) hS0 rfl rfl (by kernel_rfl) (by kernel_rfl) (by kernel_rfl) (by kernel_rfl) (wanted_some (j := 18) (d := 45) (bb := false) rfl rfl rfl (by simp [eval_put_ne, eval_put_eq, size_put, hts]) (by simp [size_put, hts])) (fun _ _ _ h => h) (fun U hU => r_ix22 j (b := g) (off := off) (len := N) (cap := ac) (kk := .i64) (by simp [eval_put_ne, eval_put_eq, size_put, hts]) (by simp [eval_put_ne, eval_put_eq, size_put, hts]) hjN) ?_
                  refine tkS 24 51 (v := .pointer (some ⟨g, off + j * 2, none⟩)) hS0 rfl rfl (by kernel_rfl) (by kernel_rfl) (by kernel_rfl) (by kernel_rfl) (wanted_some (j := 18) (d := 45) (bb := false) rfl rfl rfl (by simp [eval_put_ne, eval_put_eq, size_put, hts]) (by simp [size_put, hts])) (fun _ _ _ h => h) (fun U hU => r_f40_0 (by simp [eval_put_ne, eval_put_eq, size_put, hts])) ?_
                  refine tkS 25 52 (v := .int .i64 r) hS0 rfl rfl (by kernel_rfl) (by kernel_rfl) (by kernel_rfl) (by kernel_rfl) (wanted_some (j := 18) (d := 45) (bb := false) rfl rfl rfl (by simp [eval_put_ne, eval_put_eq, size_put, hts]) (by simp [size_put, hts])) (fun _ _ _ h => h) (fun U hU => r_ld3 (b := g) (o := off + j * 2) (by simp [eval_put_ne, eval_put_eq, size_put, hts]) (by have := (hU.cells cjw (fun h => h)) 0 _ rfl; simpa using this)) ?_
                  refine tkS 26 53 (v := .bool false) hS0 rfl rfl (by kernel_rfl) (by kernel_rfl) (by kernel_rfl) (by kernel_rfl) (wanted_some (j := 18) (d := 45) (bb := false) rfl rfl rfl (by simp [eval_put_ne, eval_put_eq, size_put, hts]) (by simp [size_put, hts])) (fun _ _ _ h => h) (fun U hU => (r_leq3 (p := p) (q := r) (by simp [eval_put_ne, eval_put_eq, size_put, hts]) (by simp [eval_put_ne, eval_put_eq, size_put, hts])).trans (by rw [HLe.out])) ?_
                  refine tkS 27 54 (v := .bool false) hS0 rfl rfl (by kernel_rfl) (by kernel_rfl) (by kernel_rfl) (by kernel_rfl) (wanted_some (j := 15) (d := 42) (bb := true) rfl rfl rfl (by simp [eval_put_ne, eval_put_eq, size_put, hts]) (by simp [size_put, hts])) (fun _ _ _ h => h) (fun U hU => r_pickF (by simp [eval_put_ne, eval_put_eq, size_put, hts]) (by simp [eval_put_ne, eval_put_eq, size_put, hts])) ?_
                  refine tkS 28 55 (v := .bool false) hS0 rfl rfl (by kernel_rfl) (by kernel_rfl) (by kernel_rfl) (by kernel_rfl) (wanted_none rfl) (fun _ _ _ h => h) (fun U hU => r_pick (by simp [eval_put_ne, eval_put_eq, size_put, hts]) (by simp [eval_put_ne, eval_put_eq, size_put, hts])) ?_
                  refine doneS (by kernel_rfl) ?_
                  have hkr3 := hkr2.trans hkw (fun _ _ h => h)
                  clear c9w cjw
                  clear hS0 hkw hheap
                  rw [hfr.out]
                  clear hfr e3 e4 e7 e9 hts
                  simp only [put_lit, put_none, List.set_cons_succ, List.set_cons_zero]
                  go_wp2
                  go_roundw
                  case rel => exact ⟨k + 1, some j, by simp, by omega, HBI.out, HBJ.out, HT.out, hkr3⟩
                  case measure => simp [intOf]; omega
            · subst h0 hoa hl0
              have HE0 : Hid (decide (((m + 1 : Nat) : Int) = 0) = false) := hide (decide_eq_false (by omega))
              have HCo : Hid (Cells w4 og (oo + m * 2) [.int .i64 q]) := hide (hkr2.cells hco (fun h => h))
              clear hco
              by_cases hpq : p > q
              · have HG : Hid (decide (p > q) = true) := hide (decide_eq_true hpq)
                have HOK : Hid (q < p) := hide hpq
                clear hpq
                cases bo with
                | none =>
                  have HT : Hid (bestW (some q) ((A.drop (k + 1)).map Wv.wr) (curW A (some k)) = R) := hide (HStep.out true (by
                    symm
                    rw [decide_eq_true_eq]
                    exact ⟨(decide_eq_true HOK.out), fun x h => by cases h⟩))
                  have HL0 : Hid (decide ((-1 : Int) < 0) = true) := hide (by decide)
                  simp only [bestI]
                  clear HStep
                  go_wp2
                  refine hold_frame (p := fun fr => Code.wp Try.prog _ _ fr _) ?_
                  intro fr hfr
                  have e3 : fr.eval (.tmp 3) = .slice (some ⟨g, off, none⟩) N ac := by rw [hfr.out]; rfl
                  have e4 : fr.eval (.tmp 4) = .slice (some ⟨og, oo, none⟩) (m + 1) oc := by rw [hfr.out]; rfl
                  have e7 : fr.eval (.tmp 7) = .int .i64 (-1) := by rw [hfr.out]; rfl
                  have e9 : fr.eval (.tmp 9) = .pointer (some ⟨b9, 0, none⟩) := by rw [hfr.out]; rfl
                  have hts : fr.tmps.size = 68 := by rw [hfr.out]; rfl
                  refine region_S0 99 Try.mixed ?_
                  intro w0 hkw hheap
                  have c9w := hkw.cells HC9.out (fun h => h)
                  have cow := hkw.cells HCo.out (fun h => h)
                  have hS0 : Kept (fun _ => False) w0 w0 := Kept.refl (fun _ => False) w0
                  refine ⟨Kept (fun _ => False) w0, ?_⟩
                  refine tkS 0 27 (v := .slice (some ⟨og, oo, none⟩) (m + 1) oc) hS0 rfl rfl (by kernel_rfl) (by kernel_rfl) (by kernel_rfl) (by kernel_rfl) (wanted_none rfl) (fun _ _ _ h => h) (fun U hU => r_move (by simp [eval_put_ne, eval_put_eq, size_put, hts, e4])) ?_
                  refine tkS 1 28 (v := .int .i64 (((m + 1) : Nat) : Int)) hS0 rfl rfl (by kernel_rfl) (by kernel_rfl) (by kernel_rfl) (by kernel_rfl) (wanted_none rfl) (fun _ _ _ h => h) (fun U hU => r_len22 (ao := some ⟨og, oo, none⟩) (c := oc) (by simp [eval_put_ne, eval_put_eq, size_put, hts])) ?_
                  refine tkS 2 29 (v := .bool false) hS0 rfl rfl (by kernel_rfl) (by kernel_rfl) (by kernel_rfl) (by kernel_rfl) (wanted_none rfl) (fun _ _ _ h => h) (fun U hU => (r_eql3 (p := (((m + 1) : Nat) : Int)) (q := 0) (by simp [eval_put_ne, eval_put_eq, size_put, hts]) rfl).trans (by rw [HE0.out])) ?_
                  refine tkS 3 30 (v := .bool false) hS0 rfl rfl (by kernel_rfl) (by kernel_rfl) (by kernel_rfl) (by kernel_rfl) (wanted_none rfl) (fun _ _ _ h => h) (fun U hU => r_move (by simp [eval_put_ne, eval_put_eq, size_put, hts])) ?_
                  refine tkS 4 31 (v := .pointer (some ⟨b9, 0, none⟩)) hS0 rfl rfl (by kernel_rfl) (by kernel_rfl) (by kernel_rfl) (by kernel_rfl) (wanted_some (j := 3) (d := 30) (bb := false) rfl rfl rfl (by simp [eval_put_ne, eval_put_eq, size_put, hts]) (by simp [size_put, hts])) (fun _ _ _ h => h) (fun U hU => r_f40_0 (by simp [eval_put_ne, eval_put_eq, size_put, hts, e9])) ?_
                  refine tkS 5 32 (v := .int .i64 p) hS0 rfl rfl (by kernel_rfl) (by kernel_rfl) (by kernel_rfl) (by kernel_rfl) (wanted_some (j := 3) (d := 30) (bb := false) rfl rfl rfl (by simp [eval_put_ne, eval_put_eq, size_put, hts]) (by simp [size_put, hts])) (fun _ _ _ h => h) (fun U hU => r_ld3 (b := b9) (o := 0) (by simp [eval_put_ne, eval_put_eq, size_put, hts]) (by have := (hU.cells c9w (fun h => h)) 0 _ rfl; simpa using this)) ?_
                  refine tkS 6 33 (v := .slice (some ⟨og, oo, none⟩) (m + 1) oc) hS0 rfl rfl (by kernel_rfl) (by kernel_rfl) (by kernel_rfl) (by kernel_rfl) (wanted_some (j := 3) (d := 30) (bb := false) rfl rfl rfl (by simp [eval_put_ne, eval_put_eq, size_put, hts]) (by simp [size_put, hts])) (fun _ _ _ h => h) (fun U hU => r_move (by simp [eval_put_ne, eval_put_eq, size_put, hts, e4])) ?_
                  refine tkS 7 34 (v := .slice (some ⟨og, oo, none⟩) (m + 1) oc) hS0 rfl rfl (by kernel_rfl) (by kernel_rfl) (by kernel_rfl) (by kernel_rfl) (wanted_some (j := 3) (d := 30) (bb := false) rfl rfl rfl (by simp [eval_put_ne, eval_put_eq, size_put, hts]) (by simp [size_put, hts])) (fun _ _ _ h => h) (fun U hU => r_move (by simp [eval_put_ne, eval_put_eq, size_put, hts, e4])) ?_
                  refine tkS 8 35 (v := .int .i64 (((m + 1) : Nat) : Int)) hS0 rfl rfl (by kernel_rfl) (by kernel_rfl) (by kernel_rfl) (by kernel_rfl) (wanted_some (j := 3) (d := 30) (bb := false) rfl rfl rfl (by simp [eval_put_ne, eval_put_eq, size_put, hts]) (by simp [size_put, hts])) (fun _ _ _ h => h) (fun U hU => r_len22 (ao := some ⟨og, oo, none⟩) (c := oc) (by simp [eval_put_ne, eval_put_eq, size_put, hts])) ?_
                  refine tkS 9 36 (v := .int .i64 ((m : Nat) : Int)) hS0 rfl rfl (by kernel_rfl) (by kernel_rfl) (by kernel_rfl) (by kernel_rfl) (wanted_some (j := 3) (d := 30) (bb := false) rfl rfl rfl (by simp [eval_put_ne, eval_put_eq, size_put, hts]) (by simp [size_put, hts])) (fun _ _ _ h => h) (fun U hU => r_subk (m := m) (by omega) (by simp [eval_put_ne, eval_put_eq, size_put, hts]) rfl) ?_
                  refine tkS 10 37 (v := .pointer (some ⟨og, oo + m * 2, none⟩)) hS0 rfl rfl (by kernel_rfl) (by kernel_rfl) (by kernel_rfl) (by kernel_rfl) (wanted_some (j := 3) (d := 30) (bb := false) rfl rfl rfl (by simp [eval_put_ne, eval_put_eq, size_put, hts]) (by simp [size_put, hts])) (fun _ _ _ h => h) (fun U hU => r_ix22 m (b := og) (off := oo) (len := m + 1) (cap := oc) (kk := .i64) (by simp [eval_put_ne, eval_put_eq, size_put, hts]) (by simp [eval_put_ne, eval_put_eq, size_put, hts]) (by omega)) ?_
                  refine tkS 11 38 (v := .pointer (some ⟨og, oo + m * 2, none⟩)) hS0 rfl rfl (by kernel_rfl) (by kernel_rfl) (by kernel_rfl) (by kernel_rfl) (wanted_some (j := 3) (d := 30) (bb := false) rfl rfl rfl (by simp [eval_put_ne, eval_put_eq, size_put, hts]) (by simp [size_put, hts])) (fun _ _ _ h => h) (fun U hU => r_f40_0 (by simp [eval_put_ne, eval_put_eq, size_put, hts])) ?_
                  refine tkS 12 39 (v := .int .i64 q) hS0 rfl rfl (by kernel_rfl) (by kernel_rfl) (by kernel_rfl) (by kernel_rfl) (wanted_some (j := 3) (d := 30) (bb := false) rfl rfl rfl (by simp [eval_put_ne, eval_put_eq, size_put, hts]) (by simp [size_put, hts])) (fun _ _ _ h => h) (fun U hU => r_ld3 (b := og) (o := oo + m * 2) (by simp [eval_put_ne, eval_put_eq, size_put, hts]) (by have := (hU.cells cow (fun h => h)) 0 _ rfl; simpa using this)) ?_
                  refine tkS 13 40 (v := .bool true) hS0 rfl rfl (by kernel_rfl) (by kernel_rfl) (by kernel_rfl) (by kernel_rfl) (wanted_some (j := 3) (d := 30) (bb := false) rfl rfl rfl (by simp [eval_put_ne, eval_put_eq, size_put, hts]) (by simp [size_put, hts])) (fun _ _ _ h => h) (fun U hU => (r_gtr3 (p := p) (q := q) (by simp [eval_put_ne, eval_put_eq, size_put, hts]) (by simp [eval_put_ne, eval_put_eq, size_put, hts])).trans (by rw [HG.out])) ?_
                  refine tkS 14 41 (v := .bool true) hS0 rfl rfl (by kernel_rfl) (by kernel_rfl) (by kernel_rfl) (by kernel_rfl) (wanted_none rfl) (fun _ _ _ h => h) (fun U hU => r_pickF (by simp [eval_put_ne, eval_put_eq, size_put, hts]) (by simp [eval_put_ne, eval_put_eq, size_put, hts])) ?_
                  refine tkS 15 42 (v := .bool true) hS0 rfl rfl (by kernel_rfl) (by kernel_rfl) (by kernel_rfl) (by kernel_rfl) (wanted_none rfl) (fun _ _ _ h => h) (fun U hU => r_move (by simp [eval_put_ne, eval_put_eq, size_put, hts])) ?_
                  refine tkS 16 43 (v := .int .i64 (-1)) hS0 rfl rfl (by kernel_rfl) (by kernel_rfl) (by kernel_rfl) (by kernel_rfl) (wanted_some (j := 15) (d := 42) (bb := true) rfl rfl rfl (by simp [eval_put_ne, eval_put_eq, size_put, hts]) (by simp [size_put, hts])) (fun _ _ _ h => h) (fun U hU => r_move (by simp [eval_put_ne, eval_put_eq, size_put, hts, e7])) ?_
                  refine tkS 17 44 (v := .bool true) hS0 rfl rfl (by kernel_rfl) (by kernel_rfl) (by kernel_rfl) (by kernel_rfl) (wanted_some (j := 15) (d := 42) (bb := true) rfl rfl rfl (by simp [eval_put_ne, eval_put_eq, size_put, hts]) (by simp [size_put, hts])) (fun _ _ _ h => h) (fun U hU => (r_lss3 (p := (-1)) (q := 0) (by simp [eval_put_ne, eval_put_eq, size_put, hts]) rfl).trans (by rw [HL0.out])) ?_
                  refine tkS 18 45 (v := .bool true) hS0 rfl rfl (by kernel_rfl) (by kernel_rfl) (by kernel_rfl) (by kernel_rfl) (wanted_some (j := 15) (d := 42) (bb := true) rfl rfl rfl (by simp [eval_put_ne, eval_put_eq, size_put, hts]) (by simp [size_put, hts])) (fun _ _ _ h => h) (fun U hU => r_move (by simp [eval_put_ne, eval_put_eq, size_put, hts])) ?_
                  refine tkNS 19 46 hS0 rfl rfl (by kernel_rfl) (by kernel_rfl) (by kernel_rfl) (by kernel_rfl) (wanted_not (j := 18) (d := 45) (bb := false) rfl rfl rfl (by simp [eval_put_ne, eval_put_eq, size_put, hts]) (by simp [size_put, hts])) (fun _ _ _ h => h) ?_
                  refine tkNS 20 47 hS0 rfl rfl (by kernel_rfl) (by kernel_rfl) (by kernel_rfl) (by kernel_rfl) (wanted_not (j := 18) (d := 45) (bb := false) rfl rfl rfl (by simp [eval_put_ne, eval_put_eq, size_put, hts]) (by simp [size_put, hts])) (fun _ _ _ h => h) ?_
                  refine tkNS 21 48 hS0 rfl rfl (by kernel_rfl) (by kernel_rfl) (by kernel_rfl) (by kernel_rfl) (wanted_not (j := 18) (d := 45) (bb := false) rfl rfl rfl (by simp [eval_put_ne, eval_put_eq, size_put, hts]) (by simp [size_put, hts])) (fun _ _ _ h => h) ?_
                  refine tkNS 22 49 hS0 rfl rfl (by kernel_rfl) (by kernel_rfl) (by kernel_rfl) (by kernel_rfl) (wanted_not (j := 18) (d := 45) (bb := false) rfl rfl rfl (by simp [eval_put_ne, eval_put_eq, size_put, hts]) (by simp [size_put, hts])) (fun _ _ _ h => h) ?_
                  refine tkNS 23 50 hS0 rfl rfl (by kernel_rfl) (by kernel_rfl) (by kernel_rfl) (by kernel_rfl) (wanted_not (j := 18) (d := 45) (bb := false) rfl rfl rfl (by simp [eval_put_ne, eval_put_eq, size_put, hts]) (by simp [size_put, hts])) (fun _ _ _ h => h) ?_
                  refine tkNS 24 51 hS0 rfl rfl (by kernel_rfl) (by kernel_rfl) (by kernel_rfl) (by kernel_rfl) (wanted_not (j := 18) (d := 45) (bb := false) rfl rfl rfl (by simp [eval_put_ne, eval_put_eq, size_put, hts]) (by simp [size_put, hts])) (fun _ _ _ h => h) ?_
                  refine tkNS 25 52 hS0 rfl rfl (by kernel_rfl) (by kernel_rfl) (by kernel_rfl) (by kernel_rfl) (wanted_not (j := 18) (d := 45) (bb := false) rfl rfl rfl (by simp [eval_put_ne, eval_put_eq, size_put, hts]) (by simp [size_put, hts])) (fun _ _ _ h => h) ?_
                  refine tkNS 26 53 hS0 rfl rfl (by kernel_rfl) (by kernel_rfl) (by kernel_rfl) (by kernel_rfl) (wanted_not (j := 18) (d := 45) (bb := false) rfl rfl rfl (by simp [eval_put_ne, eval_put_eq, size_put, hts]) (by simp [size_put, hts])) (fun _ _ _ h => h) ?_
                  refine tkS 27 54 (v := .bool true) hS0 rfl rfl (by kernel_rfl) (by kernel_rfl) (by kernel_rfl) (by kernel_rfl) (wanted_some (j := 15) (d := 42) (bb := true) rfl rfl rfl (by simp [eval_put_ne, eval_put_eq, size_put, hts]) (by simp [size_put, hts])) (fun _ _ _ h => h) (fun U hU => r_pick (by simp [eval_put_ne, eval_put_eq, size_put, hts]) rfl) ?_
                  refine tkS 28 55 (v := .bool true) hS0 rfl rfl (by kernel_rfl) (by kernel_rfl) (by kernel_rfl) (by kernel_rfl) (wanted_none rfl) (fun _ _ _ h => h) (fun U hU => r_pick (by simp [eval_put_ne, eval_put_eq, size_put, hts]) (by simp [eval_put_ne, eval_put_eq, size_put, hts])) ?_
                  refine doneS (by kernel_rfl) ?_
                  have hkr3 := hkr2.trans hkw (fun _ _ h => h)
                  clear c9w cow
                  clear hS0 hkw hheap
                  rw [hfr.out]
                  clear hfr e3 e4 e7 e9 hts
                  simp only [put_lit, put_none, List.set_cons_succ, List.set_cons_zero]
                  go_wp2
                  go_roundw
                  case rel => exact ⟨k + 1, some k, by simp, by omega, rfl, fun i e => by cases e; omega, HT.out, hkr3⟩
                  case measure => simp [intOf]; omega
                | some j =>
                  have hjN : j < N := HBJ.out j rfl
                  have hjA : j < A.length := by rw [← HN.out]; exact hjN
                  have hcur : curW A (some j) = some A[j].wr := by simp [curW, List.getElem?_eq_getElem hjA]
                  have hcj := HCj4.out j hjA
                  obtain ⟨y, hy⟩ : ∃ y, y = A[j] := ⟨_, rfl⟩
                  rw [← hy] at hcur hcj
                  obtain ⟨r, ys, yB2⟩ := y
                  simp only at hcj
                  have HCj := hide hcj
                  have Hcur := hide hcur
                  clear hy hcj hcur hjA
                  have HL0 : Hid (decide (((j : Nat) : Int) < 0) = false) := hide (decide_eq_false (by omega))
                  simp only [bestI]
                  by_cases hle : p ≤ r
                  · have HLe : Hid (decide (p ≤ r) = true) := hide (decide_eq_true hle)
                    have HT : Hid (bestW (some q) ((A.drop (k + 1)).map Wv.wr) (curW A (some k)) = R) := hide (HStep.out true (by
                      symm
                      rw [decide_eq_true_eq]
                      exact ⟨(decide_eq_true HOK.out), fun x h => by rw [Hcur.out] at h; cases h; exact hle⟩))
                    clear HStep hle
                    go_wp2
                    refine hold_frame (p := fun fr => Code.wp Try.prog _ _ fr _) ?_
                    intro fr hfr
                    have e3 : fr.eval (.tmp 3) = .slice (some ⟨g, off, none⟩) N ac := by rw [hfr.out]; rfl
                    have e4 : fr.eval (.tmp 4) = .slice (some ⟨og, oo, none⟩) (m + 1) oc := by rw [hfr.out]; rfl
                    have e7 : fr.eval (.tmp 7) = .int .i64 ((j : Nat) : Int) := by rw [hfr.out]; rfl
                    have e9 : fr.eval (.tmp 9) = .pointer (some ⟨b9, 0, none⟩) := by rw [hfr.out]; rfl
                    have hts : fr.tmps.size = 68 := by rw [hfr.out]; rfl
                    refine region_S0 99 Try.mixed ?_
                    intro w0 hkw hheap
                    have c9w := hkw.cells HC9.out (fun h => h)
                    have cow := hkw.cells HCo.out (fun h => h)
                    have cjw := hkw.cells HCj.out (fun h => h)
                    have hS0 : Kept (fun _ => False) w0 w0 := Kept.refl (fun _ => False) w0
                    refine ⟨Kept (fun _ => False) w0, ?_⟩
                    refine tkS 0 27 (v := .slice (some ⟨og, oo, none⟩) (m + 1) oc) hS0 rfl rfl (by kernel_rfl) (by kernel_rfl) (by kernel_rfl) (by kernel_rfl) (wanted_none rfl) (fun _ _ _ h => h) (fun U hU => r_move (by simp [eval_put_ne, eval_put_eq, size_put, hts, e4])) ?_
                    refine tkS 1 28 (v := .int .i64 (((m + 1) : Nat) : Int)) hS0 rfl rfl (by kernel_rfl) (by kernel_rfl) (by kernel_rfl) (by kernel_rfl) (wanted_none rfl) (fun _ _ _ h => h) (fun U hU => r_len22 (ao := some ⟨og, oo, none⟩) (c := oc) (by simp [eval_put_ne, eval_put_eq, size_put, hts])) ?_
                    refine tkS 2 29 (v := .bool false) hS0 rfl rfl (by kernel_rfl) (by kernel_rfl) (by kernel_rfl) (by kernel_rfl) (wanted_none rfl) (fun _ _ _ h => h) (fun U hU => (r_eql3 (p := (((m + 1) : Nat) : Int)) (q := 0) (by simp [eval_put_ne, eval_put_eq, size_put, hts]) rfl).trans (by rw [HE0.out])) ?_
                    refine tkS 3 30 (v := .bool false) hS0 rfl rfl (by kernel_rfl) (by kernel_rfl) (by kernel_rfl) (by kernel_rfl) (wanted_none rfl) (fun _ _ _ h => h) (fun U hU => r_move (by simp [eval_put_ne, eval_put_eq, size_put, hts])) ?_
                    refine tkS 4 31 (v := .pointer (some ⟨b9, 0, none⟩)) hS0 rfl rfl (by kernel_rfl) (by kernel_rfl) (by kernel_rfl) (by kernel_rfl) (wanted_some (j := 3) (d := 30) (bb := false) rfl rfl rfl (by simp [eval_put_ne, eval_put_eq, size_put, hts]) (by simp [size_put, hts])) (fun _ _ _ h => h) (fun U hU => r_f40_0 (by simp [eval_put_ne, eval_put_eq, size_put, hts, e9])) ?_
                    refine tkS 5 32 (v := .int .i64 p) hS0 rfl rfl (by kernel_rfl) (by kernel_rfl) (by kernel_rfl) (by kernel_rfl) (wanted_some (j := 3) (d := 30) (bb := false) rfl rfl rfl (by simp [eval_put_ne, eval_put_eq, size_put, hts]) (by simp [size_put, hts])) (fun _ _ _ h => h) (fun U hU => r_ld3 (b := b9) (o := 0) (by simp [eval_put_ne, eval_put_eq, size_put, hts]) (by have := (hU.cells c9w (fun h => h)) 0 _ rfl; simpa using this)) ?_
                    refine tkS 6 33 (v := .slice (some ⟨og, oo, none⟩) (m + 1) oc) hS0 rfl rfl (by kernel_rfl) (by kernel_rfl) (by kernel_rfl) (by kernel_rfl) (wanted_some (j := 3) (d := 30) (bb := false) rfl rfl rfl (by simp [eval_put_ne, eval_put_eq, size_put, hts]) (by simp [size_put, hts])) (fun _ _ _ h => h) (fun U hU => r_move (by simp [eval_put_ne, eval_put_eq, size_put, hts, e4])) ?_
                    refine tkS 7 34 (v := .slice (some ⟨og, oo, none⟩) (m + 1) oc) hS0 rfl rfl (by kernel_rfl) (by kernel_rfl) (by kernel_rfl) (by kernel_rfl) (wanted_some (j := 3) (d := 30) (bb := false) rfl rfl rfl (by simp [eval_put_ne, eval_put_eq, size_put, hts]) (by simp [size_put, hts])) (fun _ _ _ h => h) (fun U hU => r_move (by simp [eval_put_ne, eval_put_eq, size_put, hts, e4])) ?_
                    refine tkS 8 35 (v := .int .i64 (((m + 1) : Nat) : Int)) hS0 rfl rfl (by kernel_rfl) (by kernel_rfl) (by kernel_rfl) (by kernel_rfl) (wanted_some (j := 3) (d := 30) (bb := false) rfl rfl rfl (by simp [eval_put_ne, eval_put_eq, size_put, hts]) (by simp [size_put, hts])) (fun _ _ _ h => h) (fun U hU => r_len22 (ao := some ⟨og, oo, none⟩) (c := oc) (by simp [eval_put_ne, eval_put_eq, size_put, hts])) ?_
                    refine tkS 9 36 (v := .int .i64 ((m : Nat) : Int)) hS0 rfl rfl (by kernel_rfl) (by kernel_rfl) (by kernel_rfl) (by kernel_rfl) (wanted_some (j := 3) (d := 30) (bb := false) rfl rfl rfl (by simp [eval_put_ne, eval_put_eq, size_put, hts]) (by simp [size_put, hts])) (fun _ _ _ h => h) (fun U hU => r_subk (m := m) (by omega) (by simp [eval_put_ne, eval_put_eq, size_put, hts]) rfl) ?_
                    refine tkS 10 37 (v := .pointer (some ⟨og, oo + m * 2, none⟩)) hS0 rfl rfl (by kernel_rfl) (by kernel_rfl) (by kernel_rfl) (by kernel_rfl) (wanted_some (j := 3) (d := 30) (bb := false) rfl rfl rfl (by simp [eval_put_ne, eval_put_eq, size_put, hts]) (by simp [size_put, hts])) (fun _ _ _ h => h) (fun U hU => r_ix22 m (b := og) (off := oo) (len := m + 1) (cap := oc) (kk := .i64) (by simp [eval_put_ne, eval_put_eq, size_put, hts]) (by simp [eval_put_ne, eval_put_eq, size_put, hts]) (by omega)) ?_
                    refine tkS 11 38 (v := .pointer (some ⟨og, oo + m * 2, none⟩)) hS0 rfl rfl (by kernel_rfl) (by kernel_rfl) (by kernel_rfl) (by kernel_rfl) (wanted_some (j := 3) (d := 30) (bb := false) rfl rfl rfl (by simp [eval_put_ne, eval_put_eq, size_put, hts]) (by simp [size_put, hts])) (fun _ _ _ h => h) (fun U hU => r_f40_0 (by simp [eval_put_ne, eval_put_eq, size_put, hts])) ?_
                    refine tkS 12 39 (v := .int .i64 q) hS0 rfl rfl (by kernel_rfl) (by kernel_rfl) (by kernel_rfl) (by kernel_rfl) (wanted_some (j := 3) (d := 30) (bb := false) rfl rfl rfl (by simp [eval_put_ne, eval_put_eq, size_put, hts]) (by simp [size_put, hts])) (fun _ _ _ h => h) (fun U hU => r_ld3 (b := og) (o := oo + m * 2) (by simp [eval_put_ne, eval_put_eq, size_put, hts]) (by have := (hU.cells cow (fun h => h)) 0 _ rfl; simpa using this)) ?_
                    refine tkS 13 40 (v := .bool true) hS0 rfl rfl (by kernel_rfl) (by kernel_rfl) (by kernel_rfl) (by kernel_rfl) (wanted_some (j := 3) (d := 30) (bb := false) rfl rfl rfl (by simp [eval_put_ne, eval_put_eq, size_put, hts]) (by simp [size_put, hts])) (fun _ _ _ h => h) (fun U hU => (r_gtr3 (p := p) (q := q) (by simp [eval_put_ne, eval_put_eq, size_put, hts]) (by simp [eval_put_ne, eval_put_eq, size_put, hts])).trans (by rw [HG.out])) ?_
                    refine tkS 14 41 (v := .bool true) hS0 rfl rfl (by kernel_rfl) (by kernel_rfl) (by kernel_rfl) (by kernel_rfl) (wanted_none rfl) (fun _ _ _ h => h) (fun U hU => r_pickF (by simp [eval_put_ne, eval_put_eq, size_put, hts]) (by simp [eval_put_ne, eval_put_eq, size_put, hts])) ?_
                    refine tkS 15 42 (v := .bool true) hS0 rfl rfl (by kernel_rfl) (by kernel_rfl) (by kernel_rfl) (by kernel_rfl) (wanted_none rfl) (fun _ _ _ h => h) (fun U hU => r_move (by simp [eval_put_ne, eval_put_eq, size_put, hts])) ?_
                    refine tkS 16 43 (v := .int .i64 ((j : Nat) : Int)) hS0 rfl rfl (by kernel_rfl) (by kernel_rfl) (by kernel_rfl) (by kernel_rfl) (wanted_some (j := 15) (d := 42) (bb := true) rfl rfl rfl (by simp [eval_put_ne, eval_put_eq, size_put, hts]) (by simp [size_put, hts])) (fun _ _ _ h => h) (fun U hU => r_move (by simp [eval_put_ne, eval_put_eq, size_put, hts, e7])) ?_
                    refine tkS 17 44 (v := .bool false) hS0 rfl rfl (by kernel_rfl) (by kernel_rfl) (by kernel_rfl) (by kernel_rfl) (wanted_some (j := 15) (d := 42) (bb := true) rfl rfl rfl (by simp [eval_put_ne, eval_put_eq, size_put, hts]) (by simp [size_put, hts])) (fun _ _ _ h => h) (fun U hU => (r_lss3 (p := ((j : Nat) : Int)) (q := 0) (by simp [eval_put_ne, eval_put_eq, size_put, hts]) rfl).trans (by rw [HL0.out])) ?_
                    refine tkS 18 45 (v := .bool false) hS0 rfl rfl (by kernel_rfl) (by kernel_rfl) (by kernel_rfl) (by kernel_rfl) (wanted_some (j := 15) (d := 42) (bb := true) rfl rfl rfl (by simp [eval_put_ne, eval_put_eq, size_put, hts]) (by simp [size_put, hts])) (fun _ _ _ h => h) (fun U hU => r_move (by simp [eval_put_ne, eval_put_eq, size_put, hts])) ?_
                    refine tkS 19 46 (v := .pointer (some ⟨b9, 0, none⟩)) hS0 rfl rfl (by kernel_rfl) (by kernel_rfl) (by kernel_rfl) (by kernel_rfl) (wanted_some (j := 18) (d := 45) (bb := false) rfl rfl rfl (by simp [eval_put_ne, eval_put_eq, size_put, hts]) (by simp [size_put, hts])) (fun _ _ _ h => h) (fun U hU => r_f40_0 (by simp [eval_put_ne, eval_put_eq, size_put, hts, e9])) ?_
                    refine tkS 20 47 (v := .int .i64 p) hS0 rfl rfl (by kernel_rfl) (by kernel_rfl) (by kernel_rfl) (by kernel_rfl) (wanted_some (j := 18) (d := 45) (bb := false) rfl rfl rfl (by simp [eval_put_ne, eval_put_eq, size_put, hts]) (by simp [size_put, hts])) (fun _ _ _ h => h) (fun U hU => r_ld3 (b := b9) (o := 0) (by simp [eval_put_ne, eval_put_eq, size_put, hts]) (by have := (hU.cells c9w (fun h => h)) 0 _ rfl; simpa using this)) ?_
                    refine tkS 21 48 (v := .slice (some ⟨g, off, none⟩) N ac) hS0 rfl rfl (by kernel_rfl) (by kernel_rfl) (by kernel_rfl) (by kernel_rfl) (wanted_some (j := 18) (d := 45) (bb := false) rfl rfl rfl (by simp [eval_put_ne, eval_put_eq, size_put, hts]) (by simp [size_put, hts])) (fun _ _ _ h => h) (fun U hU => r_move (by simp [eval_put_ne, eval_put_eq, size_put, hts, e3])) ?_
                    refine tkS 22 49 (v := .int .i64 ((j : Nat) : Int)) hS0 rfl rfl (by kernel_rfl) (by kernel_rfl) (by kernel_rfl) (by kernel_rfl) (wanted_some (j := 18) (d := 45) (bb := false) rfl rfl rfl (by simp [eval_put_ne, eval_put_eq, size_put, hts]) (by simp [size_put, hts])) (fun _ _ _ h => h) (fun U hU => r_move (by simp [eval_put_ne, eval_put_eq, size_put, hts, e7])) ?_
                    refine tkS 23 50 (v := .pointer (some ⟨g, off + j * 2, none⟩)) hS0 rfl rfl (by kernel_rfl) (by kernel_rfl) (by kernel_rfl) (by kernel_rfl) (wanted_some (j := 18) (d := 45) (bb := false) rfl rfl rfl (by simp [eval_put_ne, eval_put_eq, size_put, hts]) (by simp [size_put, hts])) (fun _ _ _ h => h) (fun U hU => r_ix22 j (b := g) (off := off) (len := N) (cap := ac) (kk := .i64) (by simp [eval_put_ne, eval_put_eq, size_put, hts]) (by simp [eval_put_ne, eval_put_eq, size_put, hts]) hjN) ?_
                    refine tkS 24 51 (v := .pointer (some ⟨g, off + j * 2, none⟩)) hS0 rfl rfl (by kernel_rfl) (by kernel_rfl) (by kernel_rfl) (by kernel_rfl) (wanted_some (j := 18) (d := 45) (bb := false) rfl rfl rfl (by simp [eval_put_ne, eval_put_eq, size_put, hts]) (by simp [size_put, hts])) (fun _ _ _ h => h) (fun U hU => r_f40_0 (by simp [eval_put_ne, eval_put_eq, size_put, hts])) ?_
                    refine tkS 25 52 (v := .int .i64 r) hS0 rfl rfl (by kernel_rfl) (by kernel_rfl) (by kernel_rfl) (by kernel_rfl) (wanted_some (j := 18) (d := 45) (bb := false) rfl rfl rfl (by simp [eval_put_ne, eval_put_eq, size_put, hts]) (by simp [size_put, hts])) (fun _ _ _ h => h) (fun U hU => r_ld3 (b := g) (o := off + j * 2) (by simp [eval_put_ne, eval_put_eq, size_put, hts]) (by have := (hU.cells cjw (fun h => h)) 0 _ rfl; simpa using this)) ?_
                    refine tkS 26 53 (v := .bool true) hS0 rfl rfl (by kernel_rfl) (by kernel_rfl) (by kernel_rfl) (by kernel_rfl) (wanted_some (j := 18) (d := 45) (bb := false) rfl rfl rfl (by simp [eval_put_ne, eval_put_eq, size_put, hts]) (by simp [size_put, hts])) (fun _ _ _ h => h) (fun U hU => (r_leq3 (p := p) (q := r) (by simp [eval_put_ne, eval_put_eq, size_put, hts]) (by simp [eval_put_ne, eval_put_eq, size_put, hts])).trans (by rw [HLe.out])) ?_
                    refine tkS 27 54 (v := .bool true) hS0 rfl rfl (by kernel_rfl) (by kernel_rfl) (by kernel_rfl) (by kernel_rfl) (wanted_some (j := 15) (d := 42) (bb := true) rfl rfl rfl (by simp [eval_put_ne, eval_put_eq, size_put, hts]) (by simp [size_put, hts])) (fun _ _ _ h => h) (fun U hU => r_pickF (by simp [eval_put_ne, eval_put_eq, size_put, hts]) (by simp [eval_put_ne, eval_put_eq, size_put, hts])) ?_
                    refine tkS 28 55 (v := .bool true) hS0 rfl rfl (by kernel_rfl) (by kernel_rfl) (by kernel_rfl) (by kernel_rfl) (wanted_none rfl) (fun _ _ _ h => h) (fun U hU => r_pick (by simp [eval_put_ne, eval_put_eq, size_put, hts]) (by simp [eval_put_ne, eval_put_eq, size_put, hts])) ?_
                    refine doneS (by kernel_rfl) ?_
                    have hkr3 := hkr2.trans hkw (fun _ _ h => h)
                    clear c9w cow cjw
                    clear hS0 hkw hheap
                    rw [hfr.out]
                    clear hfr e3 e4 e7 e9 hts
                    simp only [put_lit, put_none, List.set_cons_succ, List.set_cons_zero]
                    go_wp2
                    go_roundw
                    case rel => exact ⟨k + 1, some k, by simp, by omega, rfl, fun i e => by cases e; omega, HT.out, hkr3⟩
                    case measure => simp [intOf]; omega
                  · have HLe : Hid (decide (p ≤ r) = false) := hide (decide_eq_false hle)
                    have HT : Hid (bestW (some q) ((A.drop (k + 1)).map Wv.wr) (curW A (some j)) = R) := hide (HStep.out false (by
                      symm
                      rw [decide_eq_false_iff_not]
                      rintro ⟨_, h⟩
                      exact hle (h _ Hcur.out)))
                    have HBI : Hid (Value.int .i64 ((j : Nat) : Int) = .int .i64 (bestI (some j))) := hide rfl
                    clear HStep hle
                    go_wp2
                    refine hold_frame (p := fun fr => Code.wp Try.prog _ _ fr _) ?_
                    intro fr hfr
                    have e3 : fr.eval (.tmp 3) = .slice (some ⟨g, off, none⟩) N ac := by rw [hfr.out]; rfl
                    have e4 : fr.eval (.tmp 4) = .slice (some ⟨og, oo, none⟩) (m + 1) oc := by rw [hfr.out]; rfl
                    have e7 : fr.eval (.tmp 7) = .int .i64 ((j : Nat) : Int) := by rw [hfr.out]; rfl
                    have e9 : fr.eval (.tmp 9) = .pointer (some ⟨b9, 0, none⟩) := by rw [hfr.out]; rfl
                    have hts : fr.tmps.size = 68 := by rw [hfr.out]; rfl
                    refine region_S0 99 Try.mixed ?_
                    intro w0 hkw hheap
                    have c9w := hkw.cells HC9.out (fun h => h)
                    have cow := hkw.cells HCo.out (fun h => h)
                    have cjw := hkw.cells HCj.out (fun h => h)
                    have hS0 : Kept (fun _ => False) w0 w0 := Kept.refl (fun _ => False) w0
                    refine ⟨Kept (fun _ => False) w0, ?_⟩
                    refine tkS 0 27 (v := .slice (some ⟨og, oo, none⟩) (m + 1) oc) hS0 rfl rfl (by kernel_rfl) (by kernel_rfl) (by kernel_rfl) (by kernel_rfl) (wanted_none rfl) (fun _ _ _ h => h) (fun U hU => r_move (by simp [eval_put_ne, eval_put_eq, size_put, hts, e4])) ?_
                    refine tkS 1 28 (v := .int .i64 (((m + 1) : Nat) : Int)) hS0 rfl rfl (by kernel_rfl) (by kernel_rfl) (by kernel_rfl) (by kernel_rfl) (wanted_none rfl) (fun _ _ _ h => h) (fun U hU => r_len22 (ao := some ⟨og, oo, none⟩) (c := oc) (by simp [eval_put_ne, eval_put_eq, size_put, hts])) ?_
                    refine tkS 2 29 (v := .bool false) hS0 rfl rfl (by kernel_rfl) (by kernel_rfl) (by kernel_rfl) (by kernel_rfl) (wanted_none rfl) (fun _ _ _ h => h) (fun U hU => (r_eql3 (p := (((m + 1) : Nat) : Int)) (q := 0) (by simp [eval_put_ne, eval_put_eq, size_put, hts]) rfl).trans (by rw [HE0.out])) ?_
                    refine tkS 3 30 (v := .bool false) hS0 rfl rfl (by kernel_rfl) (by kernel_rfl) (by kernel_rfl) (by kernel_rfl) (wanted_none rfl) (fun _ _ _ h => h) (fun U hU => r_move (by simp [eval_put_ne, eval_put_eq, size_put, hts])) ?_
                    refine tkS 4 31 (v := .pointer (some ⟨b9, 0, none⟩)) hS0 rfl rfl (by kernel_rfl) (by kernel_rfl) (by kernel_rfl) (by kernel_rfl) (wanted_some (j := 3) (d := 30) (bb := false) rfl rfl rfl (by simp [eval_put_ne, eval_put_eq, size_put, hts]) (by simp [size_put, hts])) (fun _ _ _ h => h) (fun U hU => r_f40_0 (by simp [eval_put_ne, eval_put_eq, size_put, hts, e9])) ?_
                    refine tkS 5 32 (v := .int .i64 p) hS0 rfl rfl (by kernel_rfl) (by kernel_rfl) (by kernel_rfl) (by kernel_rfl) (wanted_some (j := 3) (d := 30) (bb := false) rfl rfl rfl (by simp [eval_put_ne, eval_put_eq, size_put, hts]) (by simp [size_put, hts])) (fun _ _ _ h => h) (fun U hU => r_ld3 (b := b9) (o := 0) (by simp [eval_put_ne, eval_put_eq, size_put, hts]) (by have := (hU.cells c9w (fun h => h)) 0 _ rfl; simpa using this)) ?_
                    refine tkS 6 33 (v := .slice (some ⟨og, oo, none⟩) (m + 1) oc) hS0 rfl rfl (by kernel_rfl) (by kernel_rfl) (by kernel_rfl) (by kernel_rfl) (wanted_some (j := 3) (d := 30) (bb := false) rfl rfl rfl (by simp [eval_put_ne, eval_put_eq, size_put, hts]) (by simp [size_put, hts])) (fun _ _ _ h => h) (fun U hU => r_move (by simp [eval_put_ne, eval_put_eq, size_put, hts, e4])) ?_
                    refine tkS 7 34 (v := .slice (some ⟨og, oo, none⟩) (m + 1) oc) hS0 rfl rfl (by kernel_rfl) (by kernel_rfl) (by kernel_rfl) (by kernel_rfl) (wanted_some (j := 3) (d := 30) (bb := false) rfl rfl rfl (by simp [eval_put_ne, eval_put_eq, size_put, hts]) (by simp [size_put, hts])) (fun _ _ _ h => h) (fun U hU => r_move (by simp [eval_put_ne, eval_put_eq, size_put, hts, e4])) ?_
                    refine tkS 8 35 (v := .int .i64 (((m + 1) : Nat) : Int)) hS0 rfl rfl (by kernel_rfl) (by kernel_rfl) (by kernel_rfl) (by kernel_rfl) (wanted_some (j := 3) (d := 30) (bb := false) rfl rfl rfl (by simp [eval_put_ne, eval_put_eq, size_put, hts]) (by simp [size_put, hts])) (fun _ _ _ h => h) (fun U hU => r_len22 (ao := some ⟨og, oo, none⟩) (c := oc) (by simp [eval_put_ne, eval_put_eq, size_put, hts])) ?_
                    refine tkS 9 36 (v := .int .i64 ((m : Nat) : Int)) hS0 rfl rfl (by kernel_rfl) (by kernel_rfl) (by kernel_rfl) (by kernel_rfl) (wanted_some (j := 3) (d := 30) (bb := false) rfl rfl rfl (by simp [eval_put_ne, eval_put_eq, size_put, hts]) (by simp [size_put, hts])) (fun _ _ _ h => h) (fun U hU => r_subk (m := m) (by omega) (by simp [eval_put_ne, eval_put_eq, size_put, hts]) rfl) ?_
                    refine tkS 10 37 (v := .pointer (some ⟨og, oo + m * 2, none⟩)) hS0 rfl rfl (by kernel_rfl) (by kernel_rfl) (by kernel_rfl) (by kernel_rfl) (wanted_some (j := 3) (d := 30) (bb := false) rfl rfl rfl (by simp [eval_put_ne, eval_put_eq, size_put, hts]) (by simp [size_put, hts])) (fun _ _ _ h => h) (fun U hU => r_ix22 m (b := og) (off := oo) (len := m + 1) (cap := oc) (kk := .i64) (by simp [eval_put_ne, eval_put_eq, size_put, hts]) (by simp [eval_put_ne, eval_put_eq, size_put, hts]) (by omega)) ?_
                    refine tkS 11 38 (v := .pointer (some ⟨og, oo + m * 2, none⟩)) hS0 rfl rfl (by kernel_rfl) (by kernel_rfl) (by kernel_rfl) (by kernel_rfl) (wanted_some (j := 3) (d := 30) (bb := false) rfl rfl rfl (by simp [eval_put_ne, eval_put_eq, size_put, hts]) (by simp [size_put, hts])) (fun _ _ _ h => h) (fun U hU => r_f40_0 (by simp [eval_put_ne, eval_put_eq, size_put, hts])) ?_
                    refine tkS 12 39 (v := .int .i64 q) hS0 rfl rfl (by kernel_rfl) (by kernel_rfl) (by kernel_rfl) (by kernel_rfl) (wanted_some (j := 3) (d := 30) (bb := false) rfl rfl rfl (by simp [eval_put_ne, eval_put_eq, size_put, hts]) (by simp [size_put, hts])) (fun _ _ _ h => h) (fun U hU => r_ld3 (b := og) (o := oo + m * 2) (by simp [eval_put_ne, eval_put_eq, size_put, hts]) (by have := (hU.cells cow (fun h => h)) 0 _ rfl; simpa using this)) ?_
                    refine tkS 13 40 (v := .bool true) hS0 rfl rfl (by kernel_rfl) (by kernel_rfl) (by kernel_rfl) (by kernel_rfl) (wanted_some (j := 3) (d := 30) (bb := false) rfl rfl rfl (by simp [eval_put_ne, eval_put_eq, size_put, hts]) (by simp [size_put, hts])) (fun _ _ _ h => h) (fun U hU => (r_gtr3 (p := p) (q := q) (by simp [eval_put_ne, eval_put_eq, size_put, hts]) (by simp [eval_put_ne, eval_put_eq, size_put, hts])).trans (by rw [HG.out])) ?_
                    refine tkS 14 41 (v := .bool true) hS0 rfl rfl (by kernel_rfl) (by kernel_rfl) (by kernel_rfl) (by kernel_rfl) (wanted_none rfl) (fun _ _ _ h => h) (fun U hU => r_pickF (by simp [eval_put_ne, eval_put_eq, size_put, hts]) (by simp [eval_put_ne, eval_put_eq, size_put, hts])) ?_
                    refine tkS 15 42 (v := .bool true) hS0 rfl rfl (by kernel_rfl) (by kernel_rfl) (by kernel_rfl) (by kernel_rfl) (wanted_none rfl) (fun _ _ _ h => h) (fun U hU => r_move (by simp [eval_put_ne, eval_put_eq, size_put, hts])) ?_
                    refine tkS 16 43 (v := .int .i64 ((j : Nat) : Int)) hS0 rfl rfl (by kernel_rfl) (by kernel_rfl) (by kernel_rfl) (by kernel_rfl) (wanted_some (j := 15) (d := 42) (bb := true) rfl rfl rfl (by simp [eval_put_ne, eval_put_eq, size_put, hts]) (by simp [size_put, hts])) (fun _ _ _ h => h) (fun U hU => r_move (by simp [eval_put_ne, eval_put_eq, size_put, hts, e7])) ?_
                    refine tkS 17 44 (v := .bool false) hS0 rfl rfl (by kernel_rfl) (by kernel_rfl) (by kernel_rfl) (by kernel_rfl) (wanted_some (j := 15) (d := 42) (bb := true) rfl rfl rfl (by simp [eval_put_ne, eval_put_eq, size_put, hts]) (by simp [size_put, hts])) (fun _ _ _ h => h) (fun U hU => (r_lss3 (p := ((j : Nat) : Int)) (q := 0) (by simp [eval_put_ne, eval_put_eq, size_put, hts]) rfl).trans (by rw [HL0.out])) ?_
                    refine tkS 18 45 (v := .bool false) hS0 rfl rfl (by kernel_rfl) (by kernel_rfl) (by kernel_rfl) (by kernel_rfl) (wanted_some (j := 15) (d := 42) (bb := true) rfl rfl rfl (by simp [eval_put_ne, eval_put_eq, size_put, hts]) (by simp [size_put, hts])) (fun _ _ _ h => h) (fun U hU => r_move (by simp [eval_put_ne, eval_put_eq, size_put, hts])) ?_
                    refine tkS 19 46 (v := .pointer (some ⟨b9, 0, none⟩)) hS0 rfl rfl (by kernel_rfl) (by kernel_rfl) (by kernel_rfl) (by kernel_rfl) (wanted_some (j := 18) (d := 45) (bb := false) rfl rfl rfl (by simp [eval_put_ne, eval_put_eq, size_put, hts]) (by simp [size_put, hts])) (fun _ _ _ h => h) (fun U hU => r_f40_0 (by simp [eval_put_ne, eval_put_eq, size_put, hts, e9])) ?_
                    refine tkS 20 47 (v := .int .i64 p) hS0 rfl rfl (by kernel_rfl) (by kernel_rfl) (by kernel_rfl) (by kernel_rfl) (wanted_some (j := 18) (d := 45) (bb := false) rfl rfl rfl (by simp [eval_put_ne, eval_put_eq, size_put, hts]) (by simp [size_put, hts])) (fun _ _ _ h => h) (fun U hU => r_ld3 (b := b9) (o := 0) (by simp [eval_put_ne, eval_put_eq, size_put, hts]) (by have := (hU.cells c9w (fun h => h)) 0 _ rfl; simpa using this)) ?_
                    refine tkS 21 48 (v := .slice (some ⟨g, off, none⟩) N ac) hS0 rfl rfl (by kernel_rfl) (by kernel_rfl) (by kernel_rfl) (by kernel_rfl) (wanted_some (j := 18) (d := 45) (bb := false) rfl rfl rfl (by simp [eval_put_ne, eval_put_eq, size_put, hts]) (by simp [size_put, hts])) (fun _ _ _ h => h) (fun U hU => r_move (by simp [eval_put_ne, eval_put_eq, size_put, hts, e3])) ?_
                    refine tkS 22 49 (v := .int .i64 ((j : Nat) : Int)) hS0 rfl rfl (by kernel_rfl) (by kernel_rfl) (by kernel_rfl) (by kernel_rfl) (wanted_some (j := 18) (d := 45) (bb := false) rfl rfl rfl (by simp [eval_put_ne, eval_put_eq, size_put, hts]) (by simp [size_put, hts])) (fun _ _ _ h => h) (fun U hU => r_move (by simp [eval_put_ne, eval_put_eq, size_put, hts, e7])) ?_
                    refine tkS 23 50 (v := .pointer (some ⟨g, off + j * 2, none⟩)) hS0 rfl rfl (by kernel_rfl) (by kernel_rfl) (by kernel_rfl) (by kernel_rfl) (wanted_some (j := 18) (d := 45) (bb := false) rfl rfl rfl (by simp [eval_put_ne, eval_put_eq, size_put, hts]) (by simp [size_put, hts])) (fun _ _ _ h => h) (fun U hU => r_ix22 j (b := g) (off := off) (len := N) (cap := ac) (kk := .i64) (by simp [eval_put_ne, eval_put_eq, size_put, hts]) (by simp [eval_put_ne, eval_put_eq, size_put, hts]) hjN) ?_
                    refine tkS 24 51 (v := .pointer (some ⟨g, off + j * 2, none⟩)) hS0 rfl rfl (by kernel_rfl) (by kernel_rfl) (by kernel_rfl) (by kernel_rfl) (wanted_some (j := 18) (d := 45) (bb := false) rfl rfl rfl (by simp [eval_put_ne, eval_put_eq, size_put, hts]) (by simp [size_put, hts])) (fun _ _ _ h => h) (fun U hU => r_f40_0 (by simp [eval_put_ne, eval_put_eq, size_put, hts])) ?_
                    refine tkS 25 52 (v := .int .i64 r) hS0 rfl rfl (by kernel_rfl) (by kernel_rfl) (by kernel_rfl) (by kernel_rfl) (wanted_some (j := 18) (d := 45) (bb := false) rfl rfl rfl (by simp [eval_put_ne, eval_put_eq, size_put, hts]) (by simp [size_put, hts])) (fun _ _ _ h => h) (fun U hU => r_ld3 (b := g) (o := off + j * 2) (by simp [eval_put_ne, eval_put_eq, size_put, hts]) (by have := (hU.cells cjw (fun h => h)) 0 _ rfl; simpa using this)) ?_
                    refine tkS 26 53 (v := .bool false) hS0 rfl rfl (by kernel_rfl) (by kernel_rfl) (by kernel_rfl) (by kernel_rfl) (wanted_some (j := 18) (d := 45) (bb := false) rfl rfl rfl (by simp [eval_put_ne, eval_put_eq, size_put, hts]) (by simp [size_put, hts])) (fun _ _ _ h => h) (fun U hU => (r_leq3 (p := p) (q := r) (by simp [eval_put_ne, eval_put_eq, size_put, hts]) (by simp [eval_put_ne, eval_put_eq, size_put, hts])).trans (by rw [HLe.out])) ?_
                    refine tkS 27 54 (v := .bool false) hS0 rfl rfl (by kernel_rfl) (by kernel_rfl) (by kernel_rfl) (by kernel_rfl) (wanted_some (j := 15) (d := 42) (bb := true) rfl rfl rfl (by simp [eval_put_ne, eval_put_eq, size_put, hts]) (by simp [size_put, hts])) (fun _ _ _ h => h) (fun U hU => r_pickF (by simp [eval_put_ne, eval_put_eq, size_put, hts]) (by simp [eval_put_ne, eval_put_eq, size_put, hts])) ?_
                    refine tkS 28 55 (v := .bool false) hS0 rfl rfl (by kernel_rfl) (by kernel_rfl) (by kernel_rfl) (by kernel_rfl) (wanted_none rfl) (fun _ _ _ h => h) (fun U hU => r_pick (by simp [eval_put_ne, eval_put_eq, size_put, hts]) (by simp [eval_put_ne, eval_put_eq, size_put, hts])) ?_
                    refine doneS (by kernel_rfl) ?_
                    have hkr3 := hkr2.trans hkw (fun _ _ h => h)
                    clear c9w cow cjw
                    clear hS0 hkw hheap
                    rw [hfr.out]
                    clear hfr e3 e4 e7 e9 hts
                    simp only [put_lit, put_none, List.set_cons_succ, List.set_cons_zero]
                    go_wp2
                    go_roundw
                    case rel => exact ⟨k + 1, some j, by simp, by omega, HBI.out, HBJ.out, HT.out, hkr3⟩
                    case measure => simp [intOf]; omega
              · have HG : Hid (decide (p > q) = false) := hide (decide_eq_false hpq)
                have HT : Hid (bestW (some q) ((A.drop (k + 1)).map Wv.wr) (curW A bo) = R) := hide (by
                  have h := HStep.out false (by
                    symm
                    rw [decide_eq_false_iff_not]
                    rintro ⟨h1, _⟩
                    exact hpq (of_decide_eq_true h1))
                  simpa using h)
                obtain ⟨bi, hbi⟩ : ∃ bi, bi = bestI bo := ⟨_, rfl⟩
                rw [← hbi]
                have HBI : Hid (Value.int .i64 bi = .int .i64 (bestI bo)) := hide (by rw [hbi])
                clear hpq hbi HStep
                go_wp2
                refine hold_frame (p := fun fr => Code.wp Try.prog _ _ fr _) ?_
                intro fr hfr
                have e3 : fr.eval (.tmp 3) = .slice (some ⟨g, off, none⟩) N ac := by rw [hfr.out]; rfl
                have e4 : fr.eval (.tmp 4) = .slice (some ⟨og, oo, none⟩) (m + 1) oc := by rw [hfr.out]; rfl
                have e7 : fr.eval (.tmp 7) = .int .i64 bi := by rw [hfr.out]; rfl
                have e9 : fr.eval (.tmp 9) = .pointer (some ⟨b9, 0, none⟩) := by rw [hfr.out]; rfl
                have hts : fr.tmps.size = 68 := by rw [hfr.out]; rfl
                refine region_S0 99 Try.mixed ?_
                intro w0 hkw hheap
                have c9w := hkw.cells HC9.out (fun h => h)
                have cow := hkw.cells HCo.out (fun h => h)
                have hS0 : Kept (fun _ => False) w0 w0 := Kept.refl (fun _ => False) w0
                refine ⟨Kept (fun _ => False) w0, ?_⟩
                refine tkS 0 27 (v := .slice (some ⟨og, oo, none⟩) (m + 1) oc) hS0 rfl rfl (by kernel_rfl) (by kernel_rfl) (by kernel_rfl) (by kernel_rfl) (wanted_none rfl) (fun _ _ _ h => h) (fun U hU => r_move (by simp [eval_put_ne, eval_put_eq, size_put, hts, e4])) ?_
                refine tkS 1 28 (v := .int .i64 (((m + 1) : Nat) : Int)) hS0 rfl rfl (by kernel_rfl) (by kernel_rfl) (by kernel_rfl) (by kernel_rfl) (wanted_none rfl) (fun _ _ _ h => h) (fun U hU => r_len22 (ao := some ⟨og, oo, none⟩) (c := oc) (by simp [eval_put_ne, eval_put_eq, size_put, hts])) ?_
                refine tkS 2 29 (v := .bool false) hS0 rfl rfl (by kernel_rfl) (by kernel_rfl) (by kernel_rfl) (by kernel_rfl) (wanted_none rfl) (fun _ _ _ h => h) (fun U hU => (r_eql3 (p := (((m + 1) : Nat) : Int)) (q := 0) (by simp [eval_put_ne, eval_put_eq, size_put, hts]) rfl).trans (by rw [HE0.out])) ?_
                refine tkS 3 30 (v := .bool false) hS0 rfl rfl (by kernel_rfl) (by kernel_rfl) (by kernel_rfl) (by kernel_rfl) (wanted_none rfl) (fun _ _ _ h => h) (fun U hU => r_move (by simp [eval_put_ne, eval_put_eq, size_put, hts])) ?_
                refine tkS 4 31 (v := .pointer (some ⟨b9, 0, none⟩)) hS0 rfl rfl (by kernel_rfl) (by kernel_rfl) (by kernel_rfl) (by kernel_rfl) (wanted_some (j := 3) (d := 30) (bb := false) rfl rfl rfl (by simp [eval_put_ne, eval_put_eq, size_put, hts]) (by simp [size_put, hts])) (fun _ _ _ h => h) (fun U hU => r_f40_0 (by simp [eval_put_ne, eval_put_eq, size_put, hts, e9])) ?_
                refine tkS 5 32 (v := .int .i64 p) hS0 rfl rfl (by kernel_rfl) (by kernel_rfl) (by kernel_rfl) (by kernel_rfl) (wanted_some (j := 3) (d := 30) (bb := false) rfl rfl rfl (by simp [eval_put_ne, eval_put_eq, size_put, hts]) (by simp [size_put, hts])) (fun _ _ _ h => h) (fun U hU => r_ld3 (b := b9) (o := 0) (by simp [eval_put_ne, eval_put_eq, size_put, hts]) (by have := (hU.cells c9w (fun h => h)) 0 _ rfl; simpa using this)) ?_
                refine tkS 6 33 (v := .slice (some ⟨og, oo, none⟩) (m + 1) oc) hS0 rfl rfl (by kernel_rfl) (by kernel_rfl) (by kernel_rfl) (by kernel_rfl) (wanted_some (j := 3) (d := 30) (bb := false) rfl rfl rfl (by simp [eval_put_ne, eval_put_eq, size_put, hts]) (by simp [size_put, hts])) (fun _ _ _ h => h) (fun U hU => r_move (by simp [eval_put_ne, eval_put_eq, size_put, hts, e4])) ?_
                refine tkS 7 34 (v := .slice (some ⟨og, oo, none⟩) (m + 1) oc) hS0 rfl rfl (by kernel_rfl) (by kernel_rfl) (by kernel_rfl) (by kernel_rfl) (wanted_some (j := 3) (d := 30) (bb := false) rfl rfl rfl (by simp [eval_put_ne, eval_put_eq, size_put, hts]) (by simp [size_put, hts])) (fun _ _ _ h => h) (fun U hU => r_move (by simp [eval_put_ne, eval_put_eq, size_put, hts, e4])) ?_
                refine tkS 8 35 (v := .int .i64 (((m + 1) : Nat) : Int)) hS0 rfl rfl (by kernel_rfl) (by kernel_rfl) (by kernel_rfl) (by kernel_rfl) (wanted_some (j := 3) (d := 30) (bb := false) rfl rfl rfl (by simp [eval_put_ne, eval_put_eq, size_put, hts]) (by simp [size_put, hts])) (fun _ _ _ h => h) (fun U hU => r_len22 (ao := some ⟨og, oo, none⟩) (c := oc) (by simp [eval_put_ne, eval_put_eq, size_put, hts])) ?_
                refine tkS 9 36 (v := .int .i64 ((m : Nat) : Int)) hS0 rfl rfl (by kernel_rfl) (by kernel_rfl) (by kernel_rfl) (by kernel_rfl) (wanted_some (j := 3) (d := 30) (bb := false) rfl rfl rfl (by simp [eval_put_ne, eval_put_eq, size_put, hts]) (by simp [size_put, hts])) (fun _ _ _ h => h) (fun U hU => r_subk (m := m) (by omega) (by simp [eval_put_ne, eval_put_eq, size_put, hts]) rfl) ?_
                refine tkS 10 37 (v := .pointer (some ⟨og, oo + m * 2, none⟩)) hS0 rfl rfl (by kernel_rfl) (by kernel_rfl) (by kernel_rfl) (by kernel_rfl) (wanted_some (j := 3) (d := 30) (bb := false) rfl rfl rfl (by simp [eval_put_ne, eval_put_eq, size_put, hts]) (by simp [size_put, hts])) (fun _ _ _ h => h) (fun U hU => r_ix22 m (b := og) (off := oo) (len := m + 1) (cap := oc) (kk := .i64) (by simp [eval_put_ne, eval_put_eq, size_put, hts]) (by simp [eval_put_ne, eval_put_eq, size_put, hts]) (by omega)) ?_
                refine tkS 11 38 (v := .pointer (some ⟨og, oo + m * 2, none⟩)) hS0 rfl rfl (by kernel_rfl) (by kernel_rfl) (by kernel_rfl) (by kernel_rfl) (wanted_some (j := 3) (d := 30) (bb := false) rfl rfl rfl (by simp [eval_put_ne, eval_put_eq, size_put, hts]) (by simp [size_put, hts])) (fun _ _ _ h => h) (fun U hU => r_f40_0 (by simp [eval_put_ne, eval_put_eq, size_put, hts])) ?_
                refine tkS 12 39 (v := .int .i64 q) hS0 rfl rfl (by kernel_rfl) (by kernel_rfl) (by kernel_rfl) (by kernel_rfl) (wanted_some (j := 3) (d := 30) (bb := false) rfl rfl rfl (by simp [eval_put_ne, eval_put_eq, size_put, hts]) (by simp [size_put, hts])) (fun _ _ _ h => h) (fun U hU => r_ld3 (b := og) (o := oo + m * 2) (by simp [eval_put_ne, eval_put_eq, size_put, hts]) (by have := (hU.cells cow (fun h => h)) 0 _ rfl; simpa using this)) ?_
                refine tkS 13 40 (v := .bool false) hS0 rfl rfl (by kernel_rfl) (by kernel_rfl) (by kernel_rfl) (by kernel_rfl) (wanted_some (j := 3) (d := 30) (bb := false) rfl rfl rfl (by simp [eval_put_ne, eval_put_eq, size_put, hts]) (by simp [size_put, hts])) (fun _ _ _ h => h) (fun U hU => (r_gtr3 (p := p) (q := q) (by simp [eval_put_ne, eval_put_eq, size_put, hts]) (by simp [eval_put_ne, eval_put_eq, size_put, hts])).trans (by rw [HG.out])) ?_
                refine tkS 14 41 (v := .bool false) hS0 rfl rfl (by kernel_rfl) (by kernel_rfl) (by kernel_rfl) (by kernel_rfl) (wanted_none rfl) (fun _ _ _ h => h) (fun U hU => r_pickF (by simp [eval_put_ne, eval_put_eq, size_put, hts]) (by simp [eval_put_ne, eval_put_eq, size_put, hts])) ?_
                refine tkS 15 42 (v := .bool false) hS0 rfl rfl (by kernel_rfl) (by kernel_rfl) (by kernel_rfl) (by kernel_rfl) (wanted_none rfl) (fun _ _ _ h => h) (fun U hU => r_move (by simp [eval_put_ne, eval_put_eq, size_put, hts])) ?_
                refine tkNS 16 43 hS0 rfl rfl (by kernel_rfl) (by kernel_rfl) (by kernel_rfl) (by kernel_rfl) (wanted_not (j := 15) (d := 42) (bb := true) rfl rfl rfl (by simp [eval_put_ne, eval_put_eq, size_put, hts]) (by simp [size_put, hts])) (fun _ _ _ h => h) ?_
                refine tkNS 17 44 hS0 rfl rfl (by kernel_rfl) (by kernel_rfl) (by kernel_rfl) (by kernel_rfl) (wanted_not (j := 15) (d := 42) (bb := true) rfl rfl rfl (by simp [eval_put_ne, eval_put_eq, size_put, hts]) (by simp [size_put, hts])) (fun _ _ _ h => h) ?_
                refine tkNS 18 45 hS0 rfl rfl (by kernel_rfl) (by kernel_rfl) (by kernel_rfl) (by kernel_rfl) (wanted_not (j := 15) (d := 42) (bb := true) rfl rfl rfl (by simp [eval_put_ne, eval_put_eq, size_put, hts]) (by simp [size_put, hts])) (fun _ _ _ h => h) ?_
                refine tkNS 19 46 hS0 rfl rfl (by kernel_rfl) (by kernel_rfl) (by kernel_rfl) (by kernel_rfl) (wanted_undef (j := 18) (d := 45) (bb := false) rfl rfl rfl (by simp [eval_put_ne, eval_put_eq, size_put, hts]) (by simp [size_put, hts])) (fun _ _ _ h => h) ?_
                refine tkNS 20 47 hS0 rfl rfl (by kernel_rfl) (by kernel_rfl) (by kernel_rfl) (by kernel_rfl) (wanted_undef (j := 18) (d := 45) (bb := false) rfl rfl rfl (by simp [eval_put_ne, eval_put_eq, size_put, hts]) (by simp [size_put, hts])) (fun _ _ _ h => h) ?_
                refine tkNS 21 48 hS0 rfl rfl (by kernel_rfl) (by kernel_rfl) (by kernel_rfl) (by kernel_rfl) (wanted_undef (j := 18) (d := 45) (bb := false) rfl rfl rfl (by simp [eval_put_ne, eval_put_eq, size_put, hts]) (by simp [size_put, hts])) (fun _ _ _ h => h) ?_
                refine tkNS 22 49 hS0 rfl rfl (by kernel_rfl) (by kernel_rfl) (by kernel_rfl) (by kernel_rfl) (wanted_undef (j := 18) (d := 45) (bb := false) rfl rfl rfl (by simp [eval_put_ne, eval_put_eq, size_put, hts]) (by simp [size_put, hts])) (fun _ _ _ h => h) ?_
                refine tkNS 23 50 hS0 rfl rfl (by kernel_rfl) (by kernel_rfl) (by kernel_rfl) (by kernel_rfl) (wanted_undef (j := 18) (d := 45) (bb := false) rfl rfl rfl (by simp [eval_put_ne, eval_put_eq, size_put, hts]) (by simp [size_put, hts])) (fun _ _ _ h => h) ?_
                refine tkNS 24 51 hS0 rfl rfl (by kernel_rfl) (by kernel_rfl) (by kernel_rfl) (by kernel_rfl) (wanted_undef (j := 18) (d := 45) (bb := false) rfl rfl rfl (by simp [eval_put_ne, eval_put_eq, size_put, hts]) (by simp [size_put, hts])) (fun _ _ _ h => h) ?_
                refine tkNS 25 52 hS0 rfl rfl (by kernel_rfl) (by kernel_rfl) (by kernel_rfl) (by kernel_rfl) (wanted_undef (j := 18) (d := 45) (bb := false) rfl rfl rfl (by simp [eval_put_ne, eval_put_eq, size_put, hts]) (by simp [size_put, hts])) (fun _ _ _ h => h) ?_
                refine tkNS 26 53 hS0 rfl rfl (by kernel_rfl) (by kernel_rfl) (by kernel_rfl) (by kernel_rfl) (wanted_undef (j := 18) (d := 45) (bb := false) rfl rfl rfl (by simp [eval_put_ne, eval_put_eq, size_put, hts]) (by simp [size_put, hts])) (fun _ _ _ h => h) ?_
                refine tkNS 27 54 hS0 rfl rfl (by kernel_rfl) (by kernel_rfl) (by kernel_rfl) (by kernel_rfl) (wanted_not (j := 15) (d := 42) (bb := true) rfl rfl rfl (by simp [eval_put_ne, eval_put_eq, size_put, hts]) (by simp [size_put, hts])) (fun _ _ _ h => h) ?_
                refine tkS 28 55 (v := .bool false) hS0 rfl rfl (by kernel_rfl) (by kernel_rfl) (by kernel_rfl) (by kernel_rfl) (wanted_none rfl) (fun _ _ _ h => h) (fun U hU => r_pickF (by simp [eval_put_ne, eval_put_eq, size_put, hts]) rfl) ?_
                refine doneS (by kernel_rfl) ?_
                have hkr3 := hkr2.trans hkw (fun _ _ h => h)
                clear c9w cow
                clear hS0 hkw hheap
                rw [hfr.out]
                clear hfr e3 e4 e7 e9 hts
                simp only [put_lit, put_none, List.set_cons_succ, List.set_cons_zero]
                go_wp2
                go_roundw
                case rel => exact ⟨k + 1, bo, by simp, by omega, HBI.out, HBJ.out, HT.out, hkr3⟩
                case measure => simp [intOf]; omega
          · obtain rfl : N = k := by omega
            have hcur : curW A bo = R := by
              have h := HB.out
              rw [List.drop_of_length_le (by rw [← HN.out]; exact Nat.le_refl _)] at h
              exact h
            obtain ⟨rest, hrest⟩ := HO.out.2.1
            have hhd := HNext.out rest hrest
            rw [← hcur] at hhd
            have hsrc : ∀ x ∈ o, Src wr x.s.v x.B := fun x hx => ((HAr.out.2.1 x (HO.out.2.2 x hx)).kept HO.out.1.2.2).kept hkr
            clear HB hlt2 hcur
            cases bo with
            | none =>
              have hr0 : rest = [] := by
                cases rest with
                | nil => rfl
                | cons y l => simp [curW] at hhd
              subst hr0
              rw [List.append_nil] at hrest
              have HF : Hid (∃ (t : Sl) (ws : List Wv), (Ending.returned (.slice oa on oc)) = .returned (.slice t.a t.n t.c) ∧ WsAt wr t.v ws ∧ ws.map Wv.wr = mergeW ((allV ls).map Wv.wr) ∧ Kept (fun _ => False) w wr ∧ WsRow wr t.v ws ∧ (∀ k, t.v.ownBlock = some k → w.heap.size ≤ k) ∧ ∀ x ∈ ws, x ∈ allV ls) := hide
                ⟨⟨oa, on, oc⟩, o, rfl, (HO.out.1.1.kept hkr (fun _ _ h => h)).at hsrc (by rw [← HON.out]; omega), by rw [← HAl.out]; exact hrest.symm, (HK.out.trans HO.out.1.2.2 (fun _ _ h => h)).trans hkr (fun _ _ h => h), HO.out.1.1.kept hkr (fun _ _ h => h), fun k hk => Nat.le_trans HK.out.size (HO.out.1.2.1 k hk), fun x hx => by rw [← HAl.out]; exact HO.out.2.2 x hx⟩
              clear hhd hrest hsrc HO HNext HLast
              simp only [bestI]
              go_wp2
              go_ret
              exact HF.out
            | some j =>
              have hjN : j < N := HBJ.out j rfl
              have hjA : j < A.length := by rw [← HN.out]; exact hjN
              obtain ⟨g, off, e, c0, c1, hsj, hnn⟩ := (HAr.out.kept (HO.out.1.2.2.trans hkr (fun _ _ h => h))).get hjA
              subst e
              clear hnn
              have hjm : A[j] ∈ A := List.getElem_mem hjA
              simp only [curW, List.getElem?_eq_getElem hjA, Option.map_some] at hhd
              obtain ⟨x, hx⟩ : ∃ x, x = A[j] := ⟨_, rfl⟩
              rw [← hx] at c0 c1 hsj hjm hhd
              obtain ⟨rest', hr'⟩ : ∃ rest', rest = x.wr :: rest' := by
                cases rest with
                | nil => simp at hhd
                | cons y l => simp at hhd; exact ⟨l, by rw [hhd]⟩
              subst hr'
              obtain ⟨p, ⟨ya, yn, yc⟩, yB⟩ := x
              simp only at c0 c1
              have Hrest := hide hrest
              have Hsj := hide hsj
              have Hjm := hide hjm
              have Hrow := hide (HO.out.1.1.kept hkr (fun _ _ h => h))
              have Hsrc := hide hsrc
              clear hhd hrest hsj hjm hx hsrc hjA HLast HNext
              simp only [bestI]
              go_wp2_with (first | (with_reducible refine stop_bs 33 ?_) | fail)
              refine hide ?_
              refine wpList_run rfl (run_buildSlice_one (M := [.int .i64 p, .slice ya yn yc]) Try.underlying33 Hi40.out Hz40.out Hs40.out (by simp) (by simp) (.inl rfl)) ?_
              have hb5 := Blk.new wr [.int .i64 p, .slice ya yn yc] 63
              have hk5 := Kept.alloc (fun _ => False) wr (.cells [.int .i64 p, .slice ya yn yc].toArray 63)
              obtain ⟨g5, hg5⟩ : ∃ b, b = wr.heap.size := ⟨_, rfl⟩
              rw [← hg5] at hb5 ⊢
              generalize wr.alloc (.cells [.int .i64 p, .slice ya yn yc].toArray 63) = w5 at hb5 hk5 ⊢
              have hw5 : WsAt w5 (.slice (some ⟨g5, 0, none⟩) 1 1) [⟨p, ⟨ya, yn, yc⟩, yB⟩] := ws_blk hb5 rfl (fun y hy => by obtain rfl := List.mem_singleton.1 hy; exact Hsj.out.kept hk5) 1 rfl (by decide)
              obtain ⟨v6, w6, hr6, hrow6, hk6, hob6⟩ := (Hrow.out.kept hk5 (fun _ _ h => h)).app hw5 (by rw [← HON.out]; simp; omega) 33
              have hk26 : Kept (fun k => (Value.slice oa on oc).ownBlock = some k) w2 w6 := ((hkr.trans hk5 (fun _ _ h => h)).mono (fun _ _ h => h.elim)).trans hk6 (fun _ _ h => h)
              obtain ⟨va, vc, ev⟩ := hrow6.sl
              have hlen6 : (o ++ [(⟨p, ⟨ya, yn, yc⟩, yB⟩ : Wv)]).length = on + 1 := by rw [List.length_append, ← HON.out]; rfl
              rw [hlen6] at ev
              subst ev
              have HO6 : Hid (OutI w1 w6 (.slice va (on + 1) vc) A (o ++ [⟨p, ⟨ya, yn, yc⟩, yB⟩])) := hide (by
                refine ⟨⟨hrow6, fun k h => ?_, HO.out.1.2.2.trans hk26 (fun i hi h => by have := HO.out.1.2.1 i h; omega)⟩, ⟨rest', by rw [Hrest.out, List.map_append, List.append_assoc]; rfl⟩, fun x hx => ?_⟩
                · rcases hob6 with e | e
                  · rw [e] at h; exact HO.out.1.2.1 k h
                  · rw [e] at h; cases h
                    have := HO.out.1.2.2.size; have := hkr.size; have := hk5.size; omega
                · rcases List.mem_append.1 hx with hx | hx
                  · exact HO.out.2.2 x hx
                  · rw [List.mem_singleton.1 hx]; exact Hjm.out)
              have HMeas : Hid (on + 1 ≤ (mergeW (A.map Wv.wr)).length) := hide (by
                rw [Hrest.out, List.length_append, List.length_map, List.length_cons, ← HON.out]; omega)
              clear hb5 hk5 hg5 hw5 hrow6 hk6 hob6 hk26 hlen6 c0 c1
              refine wpList_run rfl (r_app rfl rfl hr6) ?_
              clear hr6 HO Hrest Hsj Hjm Hrow Hsrc
              go_wp2
              go_roundw
              case rel => exact ⟨_, HO6⟩
              case measure => simp only [lenV]; have := HMeas.out; omega
end Go.Proofs.Ytclfklcboigifaa
