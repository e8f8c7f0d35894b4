/-
  OrderPlays: the walk.
-/
import Derived.Test.YtkchlmpfegjkfaaLook
namespace Go.Proofs.Ytkchlmpfegjkfaa
open Go.RowKit Go.Shelf
set_option linter.unusedSimpArgs false
set_option linter.unusedVariables false

theorem Try.info28 : (Try.prog.info? 28).map (fun i => (i.zero, i.size, i.bytes)) = some (some (.agg #[.int .i64 0, .int .i64 0, .int .i64 0, .string ⟨#[]⟩]), 4, 40) := by kernel_rfl
theorem Try.agg28 : aggSize Try.prog 28 4 := by
  obtain ⟨i0, hi, _, hs, _⟩ := info_parts Try.info28
  exact ⟨⟨i0, hi, hs⟩, _, Try.underlying28, .inr ⟨_, rfl⟩⟩
/-- An operation, as it was handed in. -/
structure OpP where
  kd : Int
  ky : Int
  st : Int
  va : ByteArray
def OpP.cells (o : OpP) : List Value := [.int .i64 o.kd, .int .i64 o.ky, .int .i64 o.st, .string o.va]
def OpsP (w : World) (ao : Option Addr) (L : List OpP) : Prop := ∀ k (hk : k < L.length), ∃ g off, ao = some ⟨g, off, none⟩ ∧ Cells w g (off + k * 4) L[k].cells
theorem OpsP.kept {w w' : World} {ao : Option Addr} {L : List OpP} (h : OpsP w ao L) (hk : Kept (fun _ => False) w w') : OpsP w' ao L := fun k hl => by
  obtain ⟨g, off, e, hc⟩ := h k hl
  exact ⟨g, off, e, hk.cells hc (fun h => h)⟩
theorem ownsRow_ne {w : World} {e1 e2 : TypeId} {s1 s2 n1 n2 : Nat} {v1 v2 : Value} {x1 x2 : List Value} (h1 : w.ownsRow 0 e1 s1 v1 n1 x1) (h2 : w.ownsRow 0 e2 s2 v2 n2 x2) (hne : e1 ≠ e2) {k : Nat} (hk : v1.ownBlock = some k) : v2.ownBlock ≠ some k := by
  rcases ownsRow_blk h1 with ⟨rfl, _⟩ | ⟨g, cap, C, rfl, hb, _⟩
  · simp [Value.ownBlock] at hk
  · simp [Value.ownBlock] at hk
    subst hk
    exact ownsRow_blk_ne h2 hb hne
section
variable {ρ : Operand → Value} {w : World} {dst : Option Tmp} {ty : TypeId} {pos : String} {aft : Array Edge} {gd : Option (Nat × Bool)} {x y : Operand}
theorem r_cv329 {k : Int} (hx : ρ x = .int .i64 k) : (execOp ρ ⟨dst, .convert 3 29 x, ty, pos, aft, gd⟩).run Try.prog w = .ok (.value (.int .u64 (IntKind.u64.wrap k))) w := by
  go_simp
theorem r_rem29 {u : Int} (hx : ρ x = .int .u64 u) (hy : ρ y = .int .u64 3) : (execOp ρ ⟨dst, .binOp .rem 29 x y 29, ty, pos, aft, gd⟩).run Try.prog w = .ok (.value (.int .u64 (u.tmod 3))) w := by
  go_simp
end
theorem wrap_u64 (k : Int) : 0 ≤ IntKind.u64.wrap k ∧ IntKind.u64.wrap k < 18446744073709551616 := by
  rw [IntKind.wrap_u64]
  omega
theorem rem_three (k : Int) : (IntKind.u64.wrap k).tmod 3 = 0 ∨ (IntKind.u64.wrap k).tmod 3 = 1 ∨ (IntKind.u64.wrap k).tmod 3 = 2 := by
  obtain ⟨h1, h2⟩ := wrap_u64 k
  rw [Int.tmod_eq_emod_of_nonneg h1]
  omega
theorem ownsRow_slice2 {w : World} {e : TypeId} {sz n : Nat} {v : Value} {xs : List Value} (h : w.ownsRow 0 e sz v n xs) : ∃ ao c, v = .slice ao n c := by
  rcases ownsRow_blk h with ⟨rfl, rfl, _⟩ | ⟨g, cap, C, rfl, _⟩
  · exact ⟨_, _, rfl⟩
  · exact ⟨_, _, rfl⟩
/-- An operation in its box. -/
theorem op_cells {W : World} {B : Nat} {o : OpP} (h : Blk W B o.cells 28) : W.cell? ⟨B, 0, none⟩ = some (.int .i64 o.kd) ∧ W.cell? ⟨B, 1, none⟩ = some (.int .i64 o.ky) ∧ W.cell? ⟨B, 2, none⟩ = some (.int .i64 o.st) ∧ W.cell? ⟨B, 3, none⟩ = some (.string o.va) := ⟨h.cell 0, h.cell 1, h.cell 2, h.cell 3⟩

/-- The order and the document's list, side by side. -/
structure PlayS (w W : World) (p : Nat) (v lv : Value) (E : List EntI) (j : Nat) : Prop where
  map : MapI W p v E
  own : OwnR W lv E
  len : E.length ≤ j
  siz : ∀ x ∈ E, x.2.size ≤ 100
  foot : ∀ k, footM p v k → w.heap.size ≤ k
  kept : Kept (fun _ => False) w W
theorem PlayS.mem {w W W' : World} {p : Nat} {v lv : Value} {E : List EntI} {j : Nat} (h : PlayS w W p v lv E j) (hk : Kept (fun _ => False) W W') : PlayS w W' p v lv E j :=
  ⟨h.map.kept hk (fun h => h) (fun _ _ h => h), h.own.kept hk (fun _ _ h => h), h.len, h.siz, h.foot, h.kept.trans hk (fun _ _ h => h)⟩
theorem PlayS.apart {w W : World} {p : Nat} {v lv : Value} {E E' : List EntI} {j : Nat} (h : PlayS w W p v lv E j) {lv' : Value} (ho : OwnR W lv' E') : ∀ k, lv'.ownBlock = some k → ¬ footM p v k := by
  rintro k hk (e | e)
  · exact ownsRow_blk_ne ho h.map.blk (by decide) (by rw [hk, e])
  · exact ownsRow_ne ho h.map.own (by decide) hk e

theorem PlayS.put {w W W1 W2 : World} {p : Nat} {v lv lv' : Value} {E : List EntI} {j : Nat} {k : Int} {x : ByteArray} (h : PlayS w W p v lv E j) (hk : Kept (fun _ => False) W W1) (ho : OwnR W1 lv' (putK ltI E k x)) (hs : StepI W1 W2 p v (putK ltI E k x)) (hx : x.size ≤ 100) : ∃ v', PlayS w W2 p v' lv' (putK ltI E k x) (j + 1) ∧ Kept (footM p v) W1 W2 := by
  obtain ⟨v', hM, hk2, hF⟩ := hs
  have h1 := h.mem hk
  refine ⟨v', ⟨hM, ho.kept hk2 (h1.apart ho), by have := (putK_length ltI E k x).1; have := h.len; omega, fun y hy => ?_, fun b hb => ?_, h1.kept.trans hk2 (fun i hi e => by have := h.foot i e; omega)⟩, hk2⟩
  · rcases mem_putK hy with rfl | hy
    · exact hx
    · exact h.siz y hy
  · rcases hF b hb with e | e
    · exact h.foot b e
    · have := h1.kept.size; omega
theorem PlayS.del {w W W1 W2 : World} {p : Nat} {v lv lv' : Value} {E : List EntI} {j : Nat} {k : Int} (h : PlayS w W p v lv E j) (hk : Kept (fun _ => False) W W1) (ho : OwnR W1 lv' (delK ltI E k)) (hs : StepI W1 W2 p v (delK ltI E k)) : ∃ v', PlayS w W2 p v' lv' (delK ltI E k) (j + 1) ∧ Kept (footM p v) W1 W2 := by
  obtain ⟨v', hM, hk2, hF⟩ := hs
  have h1 := h.mem hk
  refine ⟨v', ⟨hM, ho.kept hk2 (h1.apart ho), by have := delK_length ltI E k; have := h.len; omega, fun y hy => h.siz y (mem_delK hy), fun b hb => ?_, h1.kept.trans hk2 (fun i hi e => by have := h.foot i e; omega)⟩, hk2⟩
  rcases hF b hb with e | e
  · exact h.foot b e
  · have := h1.kept.size; omega
theorem PlayS.blk_ne {w W : World} {p : Nat} {v lv : Value} {E : List EntI} {j : Nat} (h : PlayS w W p v lv E j) {b : Nat} {L : List Value} {t : TypeId} (hb : Blk W b L t) (h1 : t ≠ 59) (h2 : t ≠ 62) : ¬ footM p v b := by
  rintro (e | e)
  · exact hb.ne h.map.blk h1 e
  · exact ownsRow_blk_ne h.map.own hb h2 e
theorem PlayS.le {w W : World} {p : Nat} {v lv : Value} {E : List EntI} {j j' : Nat} (h : PlayS w W p v lv E j) (hj : j ≤ j') : PlayS w W p v lv E j' := ⟨h.map, h.own, by have := h.len; omega, h.siz, h.foot, h.kept⟩

set_option maxRecDepth 100000 in
set_option maxHeartbeats 8000000 in
theorem plays_any (w : World) (ao : Option Addr) (cap : Nat) (L : List OpP) (hL : OpsP w ao L) (hlm : L.length ≤ 9223372036854775807) :
    Calls Try.prog 3 #[.slice ao L.length cap] w fun e w' => e = .returned (.bool true) ∧ Kept (fun _ => False) w w' := by
  obtain ⟨i28, hi28, hz28, hs28, hb28⟩ := info_parts Try.info28
  have Hi28 := hide hi28
  have Hz28 := hide hz28
  have HL := hide hL
  clear hi28 hz28 hs28 hb28 hL
  go_enter Try.func3, Try.ntmps3
  go_wp2_with fail
  refine (first_any w).mono ?_
  rintro e w1 ⟨rfl, hk1⟩
  go_wp2_with fail
  refine (new_atI w1).mono ?_
  rintro e w2 ⟨rfl, hM2, hk2⟩
  obtain ⟨p, hp⟩ : ∃ p, p = w1.heap.size := ⟨_, rfl⟩
  rw [← hp] at hM2 ⊢
  have hS2 : PlayS w w2 p (.slice none 0 0) (.slice none 0 0) [] 0 := ⟨hM2, World.ownsRow_nil _ _ _ _, by simp, by simp, by
    rintro k (h | h)
    · have := hk1.size; omega
    · simp [Value.ownBlock] at h, hk1.trans hk2 (fun _ _ h => h)⟩
  have HS2 := hide hS2
  clear hp hM2 hk1 hk2 hS2
  go_wp2
  go_loopw [4, 25] (fun lv i wr => ∃ (j : Nat) (lao : Option Addr) (ln lc : Nat) (v : Value) (E : List EntI), lv = .slice lao ln lc ∧ i = .int .i64 j ∧ j ≤ L.length ∧ j ≤ 60 ∧ ln = E.length ∧ Hid (PlayS w wr p v (.slice lao ln lc) E j)) (fun _ i _ => L.length - (intOf i).toNat)
  case atStart => exact ⟨0, none, 0, 0, _, [], rfl, rfl, Nat.zero_le _, by omega, rfl, HS2⟩
  case round =>
    obtain ⟨j, lao, ln, lc, v, E, rfl, rfl, hj, hj60, rfl, hS⟩ := hrel
    clear HS2
    by_cases hlt : j < L.length
    · obtain ⟨g, off, rfl, hcs⟩ := (HL.out.kept hS.out.kept) j hlt
      obtain ⟨o, ho⟩ : ∃ o, o = L[j] := ⟨_, rfl⟩
      rw [← ho] at hcs
      have c0 : wr.cell? ⟨g, off + j * 4, none⟩ = some (.int .i64 o.kd) := hcs 0 _ rfl
      have c1 : wr.cell? ⟨g, off + j * 4 + 1, none⟩ = some (.int .i64 o.ky) := hcs 1 _ rfl
      have c2 : wr.cell? ⟨g, off + j * 4 + 2, none⟩ = some (.int .i64 o.st) := hcs 2 _ rfl
      have c3 : wr.cell? ⟨g, off + j * 4 + 3, none⟩ = some (.string o.va) := hcs 3 _ rfl
      clear hcs ho
      have hd60 : (60 ≤ j ∧ decide ((60 : Int) ≤ (j : Int)) = true) ∨ (j < 60 ∧ decide ((60 : Int) ≤ (j : Int)) = false) := by
        by_cases h : 60 ≤ j
        · exact .inl ⟨h, decide_eq_true (by omega)⟩
        · exact .inr ⟨by omega, decide_eq_false (by omega)⟩
      have hkP : Kept (fun _ => False) w wr := hS.out.kept
      rcases hd60 with ⟨h60, hd⟩ | ⟨h60, hd⟩
      · go_wp2_with (first
          | ((with_reducible refine aw_alloc (t := 28) Hi28.out Hz28.out ?_); intro w3 hw3 hk3 hz3; have Hz3 := hide hz3; clear hz3 c0 c1 c2 c3)
          | ((with_reducible refine aw_store (M := o.cells) Try.agg28 rfl rfl rfl (by simp [OpP.cells, Value.oneCell']) hw3 (by simp [Value.cells]) ?_); intro w4 hw4 hk4 hz4; have Hz4 := hide hz4; clear hz4; rw [put_whole _ _ (by simp [OpP.cells, Value.cells])] at hw4))
        go_ret
        exact ⟨rfl, (hkP.trans hk3 (fun _ _ h => h)).trans hk4 (fun i hi h => by have := hkP.size; omega)⟩
      · by_cases hva : 100 < o.va.size
        · go_wp2_with (first
            | ((with_reducible refine aw_alloc (t := 28) Hi28.out Hz28.out ?_); intro w3 hw3 hk3 hz3; have Hz3 := hide hz3; clear hz3 c0 c1 c2 c3)
            | ((with_reducible refine aw_store (M := o.cells) Try.agg28 rfl rfl rfl (by simp [OpP.cells, Value.oneCell']) hw3 (by simp [Value.cells]) ?_); intro w4 hw4 hk4 hz4; have Hz4 := hide hz4; clear hz4; rw [put_whole _ _ (by simp [OpP.cells, Value.cells])] at hw4; have d3 : w4.cell? ⟨wr.heap.size, 3, none⟩ = some (.string o.va) := (op_cells hw4).2.2.2))
          go_ret
          exact ⟨rfl, (hkP.trans hk3 (fun _ _ h => h)).trans hk4 (fun i hi h => by have := hkP.size; omega)⟩
        · have hva' : decide ((100 : Int) < (o.va.size : Int)) = false := decide_eq_false (by omega)
          go_wp2_with (first
            | ((with_reducible refine aw_alloc (t := 28) Hi28.out Hz28.out ?_); intro w3 hw3 hk3 hz3; have Hz3 := hide hz3; clear hz3 c0 c1 c2 c3)
            | ((with_reducible refine aw_store (M := o.cells) Try.agg28 rfl rfl rfl (by simp [OpP.cells, Value.oneCell']) hw3 (by simp [Value.cells]) ?_); intro w4 hw4 hk4 hz4; have Hz4 := hide hz4; clear hz4; rw [put_whole _ _ (by simp [OpP.cells, Value.cells])] at hw4; have d0 : w4.cell? ⟨wr.heap.size, 0, none⟩ = some (.int .i64 o.kd) := (op_cells hw4).1; have d3 : w4.cell? ⟨wr.heap.size, 3, none⟩ = some (.string o.va) := (op_cells hw4).2.2.2)
            | (with_reducible refine stop_convert 3 29 ?_))
          refine hide ?_
          refine wpList_run rfl (r_cv329 rfl) ?_
          try simp only [put_lit, List.set_cons_succ, List.set_cons_zero]
          refine wpList_run rfl (r_rem29 rfl rfl) ?_
          try simp only [put_lit, List.set_cons_succ, List.set_cons_zero]
          have hk34 : Kept (fun _ => False) wr w4 := hk3.trans hk4 (fun i hi h => by omega)
          have hS4 := hS.out.mem hk34
          have HS4 := hide hS4
          have hEl : E.length ≤ 60 := by have := hS4.len; omega
          have hvs : o.va.size ≤ 100 := by omega
          obtain ⟨B, hB⟩ : ∃ B, B = wr.heap.size := ⟨_, rfl⟩
          rw [← hB] at hw4 d0 d3 ⊢
          have d1 : w4.cell? ⟨B, 1, none⟩ = some (.int .i64 o.ky) := (op_cells hw4).2.1
          clear hB hw3 hk3 hk4 hk34 hS4 d0 hva' hd hkP
          rcases rem_three o.kd with e | e | e
          · rw [e]
            clear e
            go_wp2_with fail
            refine (rput_at w4 _ E o.ky o.va HS4.out.own HS4.out.map.srt (by omega)).mono ?_
            rintro e w5 ⟨lv5, rfl, ho5, hk5⟩
            obtain ⟨lao6, lc6, rfl⟩ := ownsRow_slice2 ho5
            have hw5 := hk5.blk hw4 (fun h => h)
            have e1 : w5.cell? ⟨B, 1, none⟩ = some (.int .i64 o.ky) := (op_cells hw5).2.1
            have e3 : w5.cell? ⟨B, 3, none⟩ = some (.string o.va) := (op_cells hw5).2.2.2
            have HO5 := hide ho5
            have HP := hide (put_atI w5 p v E o.ky o.va (HS4.out.mem hk5).map (by omega))
            generalize hasK ltI E o.ky = hh at HP ⊢
            clear ho5 d1 d3
            go_wp2_with fail
            refine HP.out.mono ?_
            rintro e w6 ⟨rfl, hst⟩
            obtain ⟨v6, hS6, hk6⟩ := HS4.out.put hk5 HO5.out hst hvs
            have hw6 := hk6.blk hw5 ((HS4.out.mem hk5).blk_ne hw5 (by decide) (by decide))
            have HS6 := hide hS6
            clear HP hst hk6 hS6 HO5 hk5 e1 e3 HS4 hw5 hw4
            go_wp2_with (first
              | ((with_reducible refine aw_load (M := o.cells) Try.agg28 rfl hw6 (by simp [OpP.cells]) rfl ?_))
              | fail)
            refine (look_at w6 p v6 _ lao6 _ lc6 o.kd o.ky o.st o.va HS6.out.map HS6.out.own (by have := HS6.out.len; omega) rfl).mono ?_
            rintro e w7 ⟨rfl, hk7⟩
            have HS7 := hide (HS6.out.mem hk7)
            clear HS6 hw6 hk7 hS
            go_wp2
            go_roundw
            case rel => exact ⟨j + 1, lao6, _, lc6, v6, _, rfl, by simp, by omega, by omega, rfl, HS7⟩
            case measure => simp [intOf]; omega
          · rw [e]
            clear e
            go_wp2_with fail
            refine (rget_at w4 _ E o.ky HS4.out.own HS4.out.map.srt (by omega)).mono ?_
            rintro e w4b ⟨rfl, hk4b⟩
            have HS4b := hide (HS4.out.mem hk4b)
            have hw4b := hk4b.blk hw4 (fun h => h)
            have d1b : w4b.cell? ⟨B, 1, none⟩ = some (.int .i64 o.ky) := (op_cells hw4b).2.1
            clear d1 d3
            go_wp2_with fail
            refine (rdel_at w4b _ E o.ky HS4b.out.own HS4b.out.map.srt (by omega)).mono ?_
            rintro e w5 ⟨lv5, rfl, ho5, hk5⟩
            obtain ⟨lao6, lc6, rfl⟩ := ownsRow_slice2 ho5
            have hw5 := hk5.blk hw4b (fun h => h)
            have e1 : w5.cell? ⟨B, 1, none⟩ = some (.int .i64 o.ky) := (op_cells hw5).2.1
            have HO5 := hide ho5
            have HP := hide (delete_atI w5 p v E o.ky (HS4b.out.mem hk5).map (by omega))
            generalize hasK ltI E o.ky = hh at HP ⊢
            clear ho5 d1b
            go_wp2_with fail
            refine HP.out.mono ?_
            rintro e w6 ⟨rfl, hst⟩
            obtain ⟨v6, hS6, hk6⟩ := HS4b.out.del hk5 HO5.out hst
            have hw6 := hk6.blk hw5 ((HS4b.out.mem hk5).blk_ne hw5 (by decide) (by decide))
            have HS6 := hide hS6
            clear HP hst hk6 hS6 HO5 hk5 e1 HS4 HS4b hk4b hw5 hw4 hw4b
            go_wp2_with (first
              | ((with_reducible refine aw_load (M := o.cells) Try.agg28 rfl hw6 (by simp [OpP.cells]) rfl ?_))
              | fail)
            refine (look_at w6 p v6 _ lao6 _ lc6 o.kd o.ky o.st o.va HS6.out.map HS6.out.own (by have := HS6.out.len; omega) rfl).mono ?_
            rintro e w7 ⟨rfl, hk7⟩
            have HS7 := hide (HS6.out.mem hk7)
            clear HS6 hw6 hk7 hS
            go_wp2
            go_roundw
            case rel => exact ⟨j + 1, lao6, _, lc6, v6, _, rfl, by simp, by omega, by omega, rfl, HS7⟩
            case measure => simp [intOf]; omega
          · rw [e]
            clear e
            have HS6 := hide (HS4.out.le (j' := j + 1) (by omega))
            obtain ⟨v6, hv6⟩ : ∃ v6, v6 = v := ⟨_, rfl⟩
            obtain ⟨lao6, hlao6⟩ : ∃ x, x = lao := ⟨_, rfl⟩
            obtain ⟨lc6, hlc6⟩ : ∃ x, x = lc := ⟨_, rfl⟩
            obtain ⟨w6, hw6e⟩ : ∃ x, x = w4 := ⟨_, rfl⟩
            rw [← hv6, ← hlao6, ← hlc6, ← hw6e] at HS6
            rw [← hw6e] at hw4 ⊢
            rw [← hlao6, ← hlc6]
            have hw6 := hw4
            clear hv6 hlao6 hlc6 hw6e HS4 hw4 d1 d3
            go_wp2_with (first
              | ((with_reducible refine aw_load (M := o.cells) Try.agg28 rfl hw6 (by simp [OpP.cells]) rfl ?_))
              | fail)
            refine (look_at w6 p v6 _ lao6 _ lc6 o.kd o.ky o.st o.va HS6.out.map HS6.out.own (by have := HS6.out.len; omega) rfl).mono ?_
            rintro e w7 ⟨rfl, hk7⟩
            have HS7 := hide (HS6.out.mem hk7)
            clear HS6 hw6 hk7 hS
            go_wp2
            go_roundw
            case rel => exact ⟨j + 1, lao6, _, lc6, v6, _, rfl, by simp, by omega, by omega, rfl, HS7⟩
            case measure => simp [intOf]; omega
    · obtain rfl : j = L.length := by omega
      clear hlt
      obtain ⟨wa, rfl⟩ : ∃ wa, wa = wr := ⟨_, rfl⟩
      obtain ⟨i39, hi39, hz39, hs39, hb39⟩ := info_parts Try.info39
      have Hi39 := hide hi39
      have Hz39 := hide hz39
      clear hi39 hz39 hs39 hb39
      have hEl : E.length ≤ 60 := by have := hS.out.len; omega
      have HSz := hide hS.out.siz
      go_wp2
      go_loopw [11, 89] (fun n i w8 => ∃ q : Nat, n = .int .i64 (cntV (E.take q) : Nat) ∧ i = .int .i64 q ∧ q ≤ E.length ∧ Kept (fun _ => False) wa w8) (fun _ i _ => E.length - (intOf i).toNat)
      case atStart => exact ⟨0, by simp [cntV], rfl, Nat.zero_le _, Kept.refl _ _⟩
      case round =>
        obtain ⟨q, rfl, rfl, hq, hk8⟩ := hrel
        by_cases hqE : q < E.length
        · obtain ⟨g, C, rfl, hb⟩ : ∃ g C, lao = some ⟨g, 0, none⟩ ∧ Blk wr g (encE ekI evI E ++ C) 39 := by
            rcases ownsRow_blk (hS.out.own.kept hk8 (fun _ _ h => h)) with ⟨_, h0, _⟩ | ⟨g, cap, C, he, hb, _⟩
            · omega
            · cases he
              exact ⟨g, C, rfl, hb⟩
          have ⟨h2, h3⟩ := two39 (w := w) (g := g) (C := C) q hqE
          have hxs := HSz.out _ (List.getElem_mem hqE)
          have hct : cntV (E.take (q + 1)) = cntV (E.take q) + cntV [E[q]] := by rw [List.take_succ_eq_append_getElem hqE, cntV_append]
          have hcl : cntV (E.take q) ≤ 60 := by
            have h1 := cntV_le (E.take q)
            have h2 := List.length_take_le q E
            omega
          obtain ⟨x, hx⟩ : ∃ x, x = E[q] := ⟨_, rfl⟩
          rw [← hx] at h2 hct hxs
          have H2 := hide h2
          have H3 := hide h3
          have HB2 := hide hb
          have HCt := hide hct
          generalize cntV (E.take q) = cn at hcl HCt ⊢
          clear h2 h3 hx hct hb
          by_cases hv2 : 2 < x.2.size
          · have HC1 : Hid (cntV [x] = 1) := hide (by simp [cntV, hv2])
            go_wp2_with (first
              | ((with_reducible refine aw_load Try.agg39 rfl HB2.out H3.out H2.out ?_))
              | ((with_reducible refine aw_alloc Hi39.out Hz39.out ?_); intro w9 hw9 hk9 hz9; have Hz9 := hide hz9; clear hz9)
              | ((with_reducible refine aw_store (M := [.int .i64 x.1, .string x.2]) Try.agg39 rfl rfl rfl (by simp [Value.oneCell']) hw9 (by simp [Value.cells]) ?_); intro w10 hw10 hk10 hz10; have Hz10 := hide hz10; clear hz10; rw [put_whole _ _ (by simp [Value.cells])] at hw10; have c2 : w10.cell? ⟨wr.heap.size, 1, none⟩ = some (.string x.2) := hw10.cell 1))
            go_roundw
            case rel => exact ⟨q + 1, by rw [HCt.out, HC1.out]; simp, by simp, by omega, (hk8.trans hk9 (fun _ _ h => h)).trans hk10 (fun i hi h => by have := hk8.size; omega)⟩
            case measure => simp [intOf]; omega
          · have HC1 : Hid (cntV [x] = 0) := hide (by simp [cntV, hv2])
            go_wp2_with (first
              | ((with_reducible refine aw_load Try.agg39 rfl HB2.out H3.out H2.out ?_))
              | ((with_reducible refine aw_alloc Hi39.out Hz39.out ?_); intro w9 hw9 hk9 hz9; have Hz9 := hide hz9; clear hz9)
              | ((with_reducible refine aw_store (M := [.int .i64 x.1, .string x.2]) Try.agg39 rfl rfl rfl (by simp [Value.oneCell']) hw9 (by simp [Value.cells]) ?_); intro w10 hw10 hk10 hz10; have Hz10 := hide hz10; clear hz10; rw [put_whole _ _ (by simp [Value.cells])] at hw10; have c2 : w10.cell? ⟨wr.heap.size, 1, none⟩ = some (.string x.2) := hw10.cell 1))
            go_roundw
            case rel => exact ⟨q + 1, by rw [HCt.out, HC1.out]; simp, by simp, by omega, (hk8.trans hk9 (fun _ _ h => h)).trans hk10 (fun i hi h => by have := hk8.size; omega)⟩
            case measure => simp [intOf]; omega
        · obtain rfl : q = E.length := by omega
          have hS8 := hS.out.mem hk8
          rw [List.take_of_length_le (Nat.le_refl _)]
          have HS8 := hide hS8
          clear hS8 hk8 hS hqE
          go_wp2_with fail
          refine (get_nilI wr 1).mono ?_
          rintro e w9 ⟨rfl, hk9⟩
          go_wp2_with fail
          refine (floor_nil w9 1).mono ?_
          rintro e w10 ⟨rfl, hk10⟩
          have HS10 := hide ((HS8.out.mem hk9).mem hk10)
          clear HS8 hk9 hk10
          go_wp2_with fail
          refine (count_at w10 p v E HS10.out.map (by omega) (fun x hx => by have := HSz.out x hx; omega)).mono ?_
          rintro e w11 ⟨rfl, hk11⟩
          have HS11 := hide (HS10.out.mem hk11)
          clear HS10 hk11
          generalize cntV E = cn
          go_wp2_with fail
          refine (put_nilI w11 1 ⟨#[]⟩).mono ?_
          rintro e w12 ⟨rfl, hk12⟩
          go_wp2_with fail
          refine (delete_nilI w12 1).mono ?_
          rintro e w13 ⟨rfl, hk13⟩
          go_wp2_with fail
          refine (len_nilI w13).mono ?_
          rintro e w14 ⟨rfl, rfl⟩
          go_wp2_with fail
          refine (keys_nilI w13).mono ?_
          rintro e w15 ⟨kv, rfl, hkv, hk15⟩
          obtain ⟨kao, kc, rfl⟩ := ownsRow_slice2 hkv
          clear hkv
          go_wp2_with fail
          refine (mclone_nilI w15).mono ?_
          rintro e w16 ⟨rfl, rfl⟩
          have hkf := ((HS11.out.kept.trans hk12 (fun _ _ h => h)).trans hk13 (fun _ _ h => h)).trans hk15 (fun _ _ h => h)
          go_wp2
          go_ret
          exact ⟨rfl, hkf⟩

end Go.Proofs.Ytkchlmpfegjkfaa
