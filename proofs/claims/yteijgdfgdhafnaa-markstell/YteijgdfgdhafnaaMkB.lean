/-
  Since, Clone, hasAll; the references New and Since.
-/
import Derived.Test.YteijgdfgdhafnaaMkT
namespace Go.Proofs.Yteijgdfgdhafnaa
open Go.RowKit Go.Shelf
set_option linter.unusedSimpArgs false
set_option linter.unusedVariables false
set_option maxRecDepth 100000

theorem aw_push {P : Program} {ops : Array Oper} {Q : Exit → Act → World → Prop} {a : Act} {w : World} {rest : List Oper} {d1 d2 : Nat} {t ty1 ty2 e : TypeId} {pos1 pos2 : String} {aft1 aft2 : Array Edge} {x y : Operand} {i : TypeInfo} {z : Value} {bytes : Nat} {v o : Value} {n : Nat} {xs : List Value}
    (ht : P.underlying t = some (.slice e)) (hi : P.info? e = some i) (hz : i.zero = some z) (hs : i.size = 1) (hb : i.bytes = bytes) (hzc : z.cells.size = 1) (hby : bytes ≤ 1000) (hx : a.eval x = v) (hv : v.cells = #[v]) (hv1 : v.oneCell' = true)
    (hy : (a.put (some d1) (.slice (some ⟨w.heap.size, 0, none⟩) 1 1)).eval y = o) (hd : (a.put (some d1) (.slice (some ⟨w.heap.size, 0, none⟩) 1 1)).eval (.tmp d1) = .slice (some ⟨w.heap.size, 0, none⟩) 1 1) (ho : w.ownsRow 0 e 1 o n xs) (hl : n + 1 ≤ 100000000)
    (h : ∀ o' w', w'.ownsRow 0 e 1 o' (n + 1) (xs ++ [v]) → Kept (fun k => o.ownBlock = some k) w w' → (∀ k, o'.ownBlock = some k → o.ownBlock = some k ∨ w.heap.size ≤ k) → wpList P ops Q rest ((a.put (some d1) (.slice (some ⟨w.heap.size, 0, none⟩) 1 1)).put (some d2) o') w') :
    wpList P ops Q (⟨some d1, .buildSlice t 1 #[(0, x)], ty1, pos1, aft1, none⟩ :: ⟨some d2, .call { callee := .builtin .append, args := #[y, .tmp d1], argTypes := #[t, t] }, ty2, pos2, aft2, none⟩ :: rest) a w := by
  refine wpList_run rfl (run_bs1 ht hi hz hs [v] rfl (by simp) (by simpa using hv) (by simp [hx])) ?_
  have hbA := Blk.new w [v] e
  have hkA : Kept (fun _ => False) w (w.alloc (.cells [v].toArray e)) := Kept.alloc _ _ _
  have hszA : (w.alloc (.cells [v].toArray e)).heap.size = w.heap.size + 1 := by simp
  generalize w.alloc (.cells [v].toArray e) = A1 at hbA hkA hszA
  obtain ⟨o', A2, hr, h2, h3, h5⟩ := append_row (P := P) (ty := ty2) (u := .slice (some ⟨w.heap.size, 0, none⟩) 1 1) (vs := [v]) ht hi hz hs hb hzc hby (ownsRow_kept ho hkA (fun _ _ h => h)) ⟨_, 1, rfl, by simp, fun _ => ⟨_, 0, rfl, by have := hbA.cells 0 1; simpa using this⟩, fun h => by cases h⟩ (by simpa using hv1) (by simp; omega)
  refine wpList_run rfl (r_app hy hd hr) ?_
  refine h o' A2 (by simpa using h2) ((hkA.mono (T := fun k => o.ownBlock = some k) (fun _ _ h => h.elim)).trans h3 (fun _ _ h => h)) (fun k hk => ?_)
  rcases h5 with h' | h'
  · rw [h'] at hk; exact .inl hk
  · rw [h'] at hk; cases hk; exact .inr (by omega)
theorem stop_bs1 {P : Program} {ops : Array Oper} {Q : Exit → Act → World → Prop} {a : Act} {w : World} {rest : List Oper} {dst : Option Tmp} {ty : TypeId} {pos : String} {aft : Array Edge} {x : Operand} (t : TypeId) (h : Hid (wpList P ops Q (⟨dst, .buildSlice t 1 #[(0, x)], ty, pos, aft, none⟩ :: rest) a w)) : wpList P ops Q (⟨dst, .buildSlice t 1 #[(0, x)], ty, pos, aft, none⟩ :: rest) a w := h.out
theorem stop_append2 {P : Program} {ops : Array Oper} {Q : Exit → Act → World → Prop} {a : Act} {w : World} {rest : List Oper} {dst : Option Tmp} {ty : TypeId} {pos : String} {aft : Array Edge} {x y : Operand} (t u : TypeId) (h : Hid (wpList P ops Q (⟨dst, .call { callee := .builtin .append, args := #[x, y], argTypes := #[t, u] }, ty, pos, aft, none⟩ :: rest) a w)) : wpList P ops Q (⟨dst, .call { callee := .builtin .append, args := #[x, y], argTypes := #[t, u] }, ty, pos, aft, none⟩ :: rest) a w := h.out

/-- An own slice of ints in the making, behind the world W. -/
def GathZ (W wr : World) (o : Value) (ys : List Int) : Prop := wr.ownsRow 0 3 1 o ys.length (ZV ys) ∧ (∀ b, o.ownBlock = some b → W.heap.size ≤ b) ∧ Kept (fun _ => False) W wr
theorem GathZ.nil (W wr : World) (h : Kept (fun _ => False) W wr) : GathZ W wr (.slice none 0 0) [] := ⟨World.ownsRow_nil _ _ _ _, fun b h => by simp [Value.ownBlock] at h, h⟩
theorem GathZ.push {W wr w' : World} {o o' : Value} {ys : List Int} {x : Int} (h : GathZ W wr o ys) (h1 : w'.ownsRow 0 3 1 o' (ys.length + 1) (ZV ys ++ [.int .i64 x])) (h2 : Kept (fun k => o.ownBlock = some k) wr w') (h3 : ∀ k, o'.ownBlock = some k → o.ownBlock = some k ∨ wr.heap.size ≤ k) : GathZ W w' o' (ys ++ [x]) := by
  refine ⟨by simpa [ZV] using h1, fun b hb => ?_, h.2.2.trans h2 (fun k hk h' => ?_)⟩
  · rcases h3 b hb with h4 | h4
    · exact h.2.1 b h4
    · exact Nat.le_trans h.2.2.size h4
  · have := h.2.1 k h'
    omega
theorem GathZ.kept {W wr w' : World} {o : Value} {ys : List Int} (h : GathZ W wr o ys) (hk : Kept (fun _ => False) wr w') : GathZ W w' o ys := ⟨ownsRow_kept h.1 hk (fun _ _ h => h), h.2.1, h.2.2.trans hk (fun _ _ h => h)⟩
theorem GathZ.src {W wr : World} {o : Value} {ys : List Int} (h : GathZ W wr o ys) : SrcV wr o (ZV ys) := by
  have := h.1
  rw [← ZV_length] at this
  exact ownsRow_src this
theorem srcz {w : World} {oa : Option Addr} {n c k : Nat} {ks : List Int} (h : SrcV w (.slice oa n c) (ZV ks)) (hk : k < ks.length) : ∃ gg gf, oa = some ⟨gg, gf, none⟩ ∧ w.cell? ⟨gg, gf + k, none⟩ = some (.int .i64 ks[k]) := by
  obtain ⟨ao, cap, e, _, hc, _⟩ := h
  simp only [Value.slice.injEq] at e
  obtain ⟨rfl, -, rfl⟩ := e
  obtain ⟨gg, gf, rfl, hcc⟩ := hc (by rw [ZV_length]; omega)
  exact ⟨gg, gf, rfl, hcc k _ (ZV_get hk)⟩

theorem sinceA_take (n : Int) : ∀ (l : List Int) (i k : Nat) (h : k < l.length), mkSinceA n i (l.take (k + 1)) = mkSinceA n i (l.take k) ++ if n < l[k] then [((i + k : Nat) : Int)] else []
  | x :: l, i, 0, h => by simp [mkSinceA]
  | x :: l, i, k + 1, h => by
    have ih := sinceA_take n l (i + 1) k (by simpa using h)
    simp only [List.take_succ_cons, mkSinceA, List.getElem_cons_succ]
    rw [ih, show i + 1 + k = i + (k + 1) by omega]
    split <;> simp
theorem since_succ {l : List Int} {n : Int} {k : Nat} (h : k < l.length) : mkSince (l.take (k + 1)) n = mkSince (l.take k) n ++ if n < l[k] then [(k : Int)] else [] := by
  have := sinceA_take n l 0 k h
  rw [Nat.zero_add] at this
  exact this
theorem sinceA_len (n : Int) : ∀ (l : List Int) (i : Nat), (mkSinceA n i l).length ≤ l.length
  | [], i => Nat.le_refl _
  | x :: l, i => by
    have := sinceA_len n l (i + 1)
    unfold mkSinceA
    split
    · simp; omega
    · simp; omega
theorem since_len (l : List Int) (n : Int) : (mkSince l n).length ≤ l.length := sinceA_len n l 0

set_option maxHeartbeats 1000000 in
theorem since_at (w : World) (b g cap : Nat) (C : List Value) (l : List Int) (h : MkAt w b g cap C l) (a : Int) : Calls Try.prog 9 #[.pointer (some ⟨b, 0, none⟩), .int .i64 a] w fun e w' => ∃ v, e = .returned v ∧ GathZ w w' v (mkSince l a) := by
  have c0 := h.cell
  have HG := hide (fun (w' : World) (hk : Kept (fun _ => False) w w') (k : Nat) (hk2 : k < l.length) => (h.kept hk).get hk2)
  obtain ⟨n, hn⟩ : ∃ n, l.length = n := ⟨_, rfl⟩
  have Hn := hide hn
  have h64 := h.2.2.2
  rw [hn] at c0 h64
  obtain ⟨i3, hi3, hz3, hs3, hb3⟩ := info_parts Try.info3
  have Hi3 := hide hi3
  have Hz3 := hide hz3
  have Hs3 := hide hs3
  have Hb3 := hide hb3
  clear h hn hi3 hz3 hs3 hb3
  go_enter Try.func9, Try.ntmps9
  go_wp2
  go_loopw [5, 15] (fun o i wr => ∃ k : Nat, i = .int .i64 k ∧ k ≤ n ∧ Hid (GathZ w wr o (mkSince (l.take k) a))) (fun _ i _ => n - (intOf i).toNat)
  case atStart => exact ⟨0, rfl, Nat.zero_le _, hide (GathZ.nil _ _ (Kept.refl _ _))⟩
  case round =>
    obtain ⟨k, rfl, hk, HO⟩ := hrel
    obtain ⟨oa, oc, rfl⟩ := ownsRow_slice HO.out.1
    by_cases hlt : k < n
    · have hkl : k < l.length := by rw [Hn.out]; exact hlt
      have c1 := HG.out _ HO.out.2.2 k hkl
      have HS := hide (since_succ (n := a) hkl)
      have HL := hide (since_len (l.take k) a)
      obtain ⟨x, hx⟩ : ∃ x, l[k] = x := ⟨_, rfl⟩
      rw [hx] at c1 HS
      have HT : Hid ((l.take k).length = k) := hide (by rw [List.length_take]; omega)
      clear hx hkl
      by_cases hax : a < x
      · have HS2 := HS.out
        rw [if_pos hax] at HS2
        have HS2 := hide HS2
        clear HS
        go_wp2_with (with_reducible refine stop_bs1 28 ?_)
        refine hide ?_
        refine aw_push (v := .int .i64 k) (o := .slice oa (mkSince (l.take k) a).length oc) Try.underlying28 Hi3.out Hz3.out Hs3.out Hb3.out rfl (by decide) rfl rfl rfl rfl rfl HO.out.1 (by have := HL.out; have := HT.out; omega) ?_
        intro o' w' q1 q2 q3
        have HO' := hide (HO.out.push q1 q2 q3)
        obtain ⟨oa', oc', rfl⟩ := ownsRow_slice q1
        clear q1 q2 q3
        try simp only [put_lit, put_none, List.set_cons_succ, List.set_cons_zero]
        go_wp2
        go_roundw
        case rel => exact ⟨k + 1, by simp, by omega, hide (by rw [HS2.out]; exact HO'.out)⟩
        case measure => simp [intOf]; omega
      · have HS2 := HS.out
        rw [if_neg hax, List.append_nil] at HS2
        have HS2 := hide HS2
        clear HS
        go_wp2
        go_roundw
        case rel => exact ⟨k + 1, by simp, by omega, hide (by rw [HS2.out]; exact HO.out)⟩
        case measure => simp [intOf]; omega
    · have hkn : k = n := by omega
      subst hkn
      have HE : Hid (∀ L, mkSince (l.take k) a = L → GathZ w wr (.slice oa (mkSince (l.take k) a).length oc) L) := hide (by intro L e; subst e; exact HO.out)
      go_wp2
      go_ret
      exact ⟨_, rfl, HE.out _ (by rw [List.take_of_length_le (by rw [Hn.out]; exact Nat.le_refl _)])⟩
theorem rsince_at (w : World) (v : Value) (l : List Int) (h : SrcV w v (ZV l)) (h64 : l.length ≤ 64) (a : Int) : Calls Try.prog 14 #[v, .int .i64 a] w fun e w' => ∃ v, e = .returned v ∧ GathZ w w' v (mkSince l a) := by
  obtain ⟨va, vc, hv, -, -, -⟩ := id h
  rw [ZV_length] at hv
  subst hv
  have HG := hide (fun (w' : World) (hk : Kept (fun _ => False) w w') (k : Nat) (hk2 : k < l.length) => srcz (h.kept hk (fun _ _ h => h)) hk2)
  obtain ⟨n, hn⟩ : ∃ n, l.length = n := ⟨_, rfl⟩
  have Hn := hide hn
  rw [hn] at h64
  rw [hn]
  obtain ⟨i3, hi3, hz3, hs3, hb3⟩ := info_parts Try.info3
  have Hi3 := hide hi3
  have Hz3 := hide hz3
  have Hs3 := hide hs3
  have Hb3 := hide hb3
  clear h hn hi3 hz3 hs3 hb3
  go_enter Try.func14, Try.ntmps14
  go_wp2
  go_loopw [5, 9] (fun o i wr => ∃ k : Nat, i = .int .i64 k ∧ k ≤ n ∧ Hid (GathZ w wr o (mkSince (l.take k) a))) (fun _ i _ => n - (intOf i).toNat)
  case atStart => exact ⟨0, rfl, Nat.zero_le _, hide (GathZ.nil _ _ (Kept.refl _ _))⟩
  case round =>
    obtain ⟨k, rfl, hk, HO⟩ := hrel
    obtain ⟨oa, oc, rfl⟩ := ownsRow_slice HO.out.1
    by_cases hlt : k < n
    · have hkl : k < l.length := by rw [Hn.out]; exact hlt
      obtain ⟨gg, gf, rfl, c1⟩ := HG.out _ HO.out.2.2 k hkl
      have HS := hide (since_succ (n := a) hkl)
      have HL := hide (since_len (l.take k) a)
      obtain ⟨x, hx⟩ : ∃ x, l[k] = x := ⟨_, rfl⟩
      rw [hx] at c1 HS
      have HT : Hid ((l.take k).length = k) := hide (by rw [List.length_take]; omega)
      clear hx hkl
      by_cases hax : a < x
      · have HS2 := HS.out
        rw [if_pos hax] at HS2
        have HS2 := hide HS2
        clear HS
        go_wp2_with (with_reducible refine stop_bs1 28 ?_)
        refine hide ?_
        refine aw_push (v := .int .i64 k) (o := .slice oa (mkSince (l.take k) a).length oc) Try.underlying28 Hi3.out Hz3.out Hs3.out Hb3.out rfl (by decide) rfl rfl rfl rfl rfl HO.out.1 (by have := HL.out; have := HT.out; omega) ?_
        intro o' w' q1 q2 q3
        have HO' := hide (HO.out.push q1 q2 q3)
        obtain ⟨oa', oc', rfl⟩ := ownsRow_slice q1
        clear q1 q2 q3
        try simp only [put_lit, put_none, List.set_cons_succ, List.set_cons_zero]
        go_wp2
        go_roundw
        case rel => exact ⟨k + 1, by simp, by omega, hide (by rw [HS2.out]; exact HO'.out)⟩
        case measure => simp [intOf]; omega
      · have HS2 := HS.out
        rw [if_neg hax, List.append_nil] at HS2
        have HS2 := hide HS2
        clear HS
        go_wp2
        go_roundw
        case rel => exact ⟨k + 1, by simp, by omega, hide (by rw [HS2.out]; exact HO.out)⟩
        case measure => simp [intOf]; omega
    · have hkn : k = n := by omega
      subst hkn
      have HE : Hid (∀ L, mkSince (l.take k) a = L → GathZ w wr (.slice oa (mkSince (l.take k) a).length oc) L) := hide (by intro L e; subst e; exact HO.out)
      go_wp2
      go_ret
      exact ⟨_, rfl, HE.out _ (by rw [List.take_of_length_le (by rw [Hn.out]; exact Nat.le_refl _)])⟩
end Go.Proofs.Yteijgdfgdhafnaa
