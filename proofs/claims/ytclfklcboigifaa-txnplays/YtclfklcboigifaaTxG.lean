/-
  Begin, Writes, Write and Read of a book.
-/
import Derived.Test.YtclfklcboigifaaTxB
namespace Go.Proofs.Ytclfklcboigifaa
open Go.RowKit Go.Shelf
set_option linter.unusedSimpArgs false
set_option linter.unusedVariables false
set_option maxRecDepth 100000

section
variable {ρ : Operand → Value} {w : World} {dst : Option Tmp} {ty : TypeId} {pos : String} {aft : Array Edge} {gd : Option (Nat × Bool)} {x y z : Operand}
theorem r_nilX {p : Addr} (hx : ρ x = .pointer (some p)) : (execOp ρ ⟨dst, .nilCheck x, ty, pos, aft, gd⟩).run Try.prog w = .ok (.value (.pointer (some p))) w := by
  go_simp
theorem r_fB0 {b : Nat} (hx : ρ x = .pointer (some ⟨b, 0, none⟩)) : (execOp ρ ⟨dst, .fieldAddr 66 x 0, ty, pos, aft, gd⟩).run Try.prog w = .ok (.value (.pointer (some ⟨b, 0, none⟩))) w := by
  go_simp
theorem r_fB1 {b : Nat} (hx : ρ x = .pointer (some ⟨b, 0, none⟩)) : (execOp ρ ⟨dst, .fieldAddr 66 x 1, ty, pos, aft, gd⟩).run Try.prog w = .ok (.value (.pointer (some ⟨b, 1, none⟩))) w := by
  go_simp
theorem r_fB2 {b : Nat} (hx : ρ x = .pointer (some ⟨b, 0, none⟩)) : (execOp ρ ⟨dst, .fieldAddr 66 x 2, ty, pos, aft, gd⟩).run Try.prog w = .ok (.value (.pointer (some ⟨b, 2, none⟩))) w := by
  go_simp
theorem r_ldX {t : TypeId} {p : Addr} {v : Value} (ht : (execOp ρ ⟨dst, .load t x, ty, pos, aft, gd⟩).run Try.prog w = .ok (.value v) w) : (execOp ρ ⟨dst, .load t x, ty, pos, aft, gd⟩).run Try.prog w = .ok (.value v) w := ht
theorem r_ldPM {p : Addr} {v : Value} (hx : ρ x = .pointer (some p)) (hc : w.cell? p = some v) : (execOp ρ ⟨dst, .load 64 x, ty, pos, aft, gd⟩).run Try.prog w = .ok (.value v) w := by
  go_simp
theorem r_ldI {p : Addr} {v : Value} (hx : ρ x = .pointer (some p)) (hc : w.cell? p = some v) : (execOp ρ ⟨dst, .load 3 x, ty, pos, aft, gd⟩).run Try.prog w = .ok (.value v) w := by
  go_simp
theorem r_call3 {f : FuncId} {u v q : Value} {t s r : TypeId} {fn : Func} {c : Code} (hf : Try.prog.funcs[f]? = some fn) (hn : (fn.name == "runtime.NumGoroutine") = false) (hb : fn.body = some c) (hfv : ρ (.func f) = .func (.func f) #[] #[]) (hx : ρ x = u) (hy : ρ y = v) (hz : ρ z = q) :
    (execOp ρ ⟨dst, .call { callee := .value (.func f), args := #[x, y, z], argTypes := #[t, s, r] }, ty, pos, aft, gd⟩).run Try.prog w = .ok (.enter f #[u, v, q]) w := by
  have h := enters_of hf hn hb #[u, v, q] w
  simp [execOp, resolve, hfv, Deferred.ofValue, invoke, hx, hy, hz, h]
end
/-- A slice of two values of some cells each is built. -/
theorem run_buildSlice_two {P : Program} {ρ : Operand → Value} {w : World} {dst : Option Tmp} {t ty e : TypeId} {x y : Operand} {pos : String} {aft : Array Edge} {gd : Option (Nat × Bool)} {i : TypeInfo} {z : Value} {M1 M2 : List Value} {v1 v2 : Value}
    (ht : P.underlying t = some (.slice e)) (hi : P.info? e = some i) (hz : i.zero = some z) (hsz : i.size = M1.length) (hpos : 0 < M1.length) (hbig : M1.length ≤ 1000) (he : M2.length = M1.length) (hx : ρ x = v1) (hy : ρ y = v2) (h1 : v1.cells = M1.toArray) (h2 : v2.cells = M2.toArray) :
    (execOp ρ ⟨dst, .buildSlice t 2 #[(0, x), (1, y)], ty, pos, aft, gd⟩).run P w = .ok (.value (.slice (some ⟨w.heap.size, 0, none⟩) 2 2)) (w.alloc (.cells (M1 ++ M2).toArray e)) := by
  have h0 : ¬ (M1.length = 0) := by omega
  have h00 : ¬ (2 * M1.length = 0) := by omega
  have hf := fill_one (fun i => some (i * M1.length, M1.length)) ((Array.range (2 * M1.length)).map (z.cells[· % z.cells.size]!)) 0 v1 [(1, v2)] 0 M1 h1 (by simp) (by simp; omega)
  have hL : (put ((Array.range (2 * M1.length)).map (z.cells[· % z.cells.size]!)).toList 0 M1).length = 2 * M1.length := by rw [length_put _ _ _ (by simp; omega)]; simp
  rw [fill_one (fun i => some (i * M1.length, M1.length)) _ 1 v2 [] M1.length M2 h2 (by simp [he]) (by simp only [List.size_toArray]; rw [hL, he]; omega), fill_nil] at hf
  have hp : put (put ((Array.range (2 * M1.length)).map (z.cells[· % z.cells.size]!)).toList 0 M1).toArray.toList M1.length M2 = M1 ++ M2 := by
    have hX : ∃ X, put ((Array.range (2 * M1.length)).map (z.cells[· % z.cells.size]!)).toList 0 M1 = M1 ++ X ∧ X.length = M1.length := by
      refine ⟨(((Array.range (2 * M1.length)).map (z.cells[· % z.cells.size]!)).toList.drop M1.length), by simp [put], by simp; omega⟩
    obtain ⟨X, hX, hl⟩ := hX
    rw [hX]
    simp only [put, List.take_left', List.toList_toArray]
    rw [List.drop_eq_nil_of_le (by simp; omega), List.append_nil]
  rw [hp] at hf
  have hb : ¬ (16777216 < 2 * M1.length) := by omega
  simp [execOp, Instr.buildSlice, run_underlying ht, sizeOf, typeInfo, hi, hsz, hb, h0, zeroValue, hz, hx, hy, newRow]
  rw [hf, if_neg h00]
  simp
theorem begin_nil (w : World) : Calls Try.prog 8 #[.pointer none] w fun e w' => e = .returned (.tuple #[.int .i64 0, .int .i64 1]) ∧ w = w' := by
  go_enter Try.func8, Try.ntmps8
  go_wp2
  go_ret2
  exact ⟨rfl, rfl⟩
theorem begin_no (w : World) (b : Nat) (n last : Int) (L : Txs) (X : NSet) (h : BkAt w b n last L X) (hl : 8 ≤ L.length) :
    Calls Try.prog 8 #[.pointer (some ⟨b, 0, none⟩)] w fun e w' => e = .returned (.tuple #[.int .i64 0, .int .i64 32]) ∧ w = w' := by
  obtain ⟨p, v, E, h, hL, hx⟩ := h
  have hEL : E.length = L.length := by rw [← hL, rowsX_len]
  have HC := hide (len_atW w p v (entsX E) h.m)
  rw [entsX_len, hEL] at HC
  have c2 : w.cell? ⟨b, 2, none⟩ = some (.pointer (some ⟨p, 0, none⟩)) := h.blk.cell 2
  have h8 : (8 : Int) ≤ (L.length : Int) := by omega
  clear h hx hL hEL
  generalize L.length = m at *
  go_enter Try.func8, Try.ntmps8
  go_wp2_with fail
  refine HC.out.mono ?_
  rintro e w1 ⟨rfl, rfl⟩
  go_wp2
  go_ret2
  exact ⟨rfl, rfl⟩
set_option maxHeartbeats 1000000 in
theorem begin_ok (w : World) (b : Nat) (n last : Int) (L : Txs) (X : NSet) (h : BkAt w b n last L X) (hl : L.length < 8) (hla : 0 ≤ last ∧ last ≤ 1000000) :
    Calls Try.prog 8 #[.pointer (some ⟨b, 0, none⟩)] w fun e w' => e = .returned (.tuple #[.int .i64 (last + 1), .int .i64 0]) ∧ BStep w w' b n (last + 1) (putK ltI L (last + 1) []) X := by
  obtain ⟨p, v, E, h, hL, hx⟩ := h
  have hEL : E.length = L.length := by rw [← hL, rowsX_len]
  have HC := hide (len_atW w p v (entsX E) h.m)
  rw [entsX_len, hEL] at HC
  have c2 : w.cell? ⟨b, 2, none⟩ = some (.pointer (some ⟨p, 0, none⟩)) := h.blk.cell 2
  have c1 : w.cell? ⟨b, 1, none⟩ = some (.int .i64 last) := h.blk.cell 1
  have f1 : w.frozen? ⟨b, 1, none⟩ = false := h.blk.frozen 1
  have h8 : ¬ (8 : Int) ≤ (L.length : Int) := by omega
  have hw1 : IntKind.i64.wrap (last + 1) = last + 1 := by rw [IntKind.wrap_i64]; omega
  have HI := hide h
  have HX := hide hx
  have hrow : putK ltI L (last + 1) [] = rowsX (putK ltI E (last + 1) (⟨none, 0, 0⟩, [])) := by
    rw [← hL]
    exact putK_map (lt := ltI) (fun x : Sl × List Wv => x.2.map Wv.wr) E (last + 1) (⟨none, 0, 0⟩, [])
  rw [hrow]
  have HEl : Hid ((entsX E).length ≤ 1000000) := hide (by rw [entsX_len]; omega)
  clear h hx hL hrow hEL hl
  generalize L.length = m at *
  obtain ⟨la, hla2⟩ : ∃ la, last + 1 = la := ⟨_, rfl⟩
  rw [hla2] at hw1 ⊢
  have HLa := hide hla2
  clear hla2
  have hw1 : IntKind.i64.wrap (last + 1) = la := by rw [HLa.out]; exact hw1
  go_enter Try.func8, Try.ntmps8
  go_wp2_with fail
  refine HC.out.mono ?_
  rintro e w1 ⟨rfl, rfl⟩
  go_wp2
  have hb2 : Blk (w.setCell ⟨b, 1, none⟩ (.int .i64 la)) b [.int .i64 n, .int .i64 la, .pointer (some ⟨p, 0, none⟩)] 66 := HI.out.blk.setCell 1 (.int .i64 la)
  have hk2 := Kept.setCell (S := fun k => k = b) w ⟨b, 1, none⟩ (.int .i64 la) rfl
  generalize w.setCell ⟨b, 1, none⟩ (.int .i64 la) = w2 at hb2 hk2 ⊢
  have hm2 : MapW w2 p v (entsX E) := HI.out.m.kept hk2 (fun e => HI.out.nb (.inl e.symm)) (fun k hk e => HI.out.nb (.inr (by rw [← e]; exact hk)))
  have hi2 : BkIs w2 b p v n la E := ⟨hb2, hm2, fun x hx => (HI.out.ws x hx).keptB HI.out.blk (by decide) (by decide) hk2⟩
  have HI2 := hide hi2
  have HK2 := hide hk2
  clear c1 c2 f1 hb2 hm2 hi2 hk2 hw1
  refine hold_frame (p := fun fr => Code.wp Try.prog _ _ fr _) ?_
  intro fr hfr
  have e0 : fr.eval (.tmp 0) = .pointer (some ⟨b, 0, none⟩) := by rw [hfr.out]; rfl
  have hts : fr.tmps.size = 32 := by rw [hfr.out]; rfl
  refine region_S 99 (fun U => Blk U b [.int .i64 n, .int .i64 la, .pointer (some ⟨p, 0, none⟩)] 66) Try.mixed ?_
  intro w0 hkw hheap
  have hi0 := HI2.out.kept hkw (fun _ _ h => h)
  have HI0 := hide hi0
  have HKw := hide hkw
  have hS0 := hi0.blk
  clear hi0 hkw hheap
  refine tkS 0 19 (v := .pointer (some ⟨b, 0, none⟩)) hS0 rfl rfl (by kernel_rfl) (by kernel_rfl) (by kernel_rfl) (by kernel_rfl) (wanted_none rfl) (fun _ _ _ h => h) (fun U hU => r_move (by simp [eval_put_ne, eval_put_eq, size_put, hts, e0])) ?_
  refine tkS 1 20 (v := .pointer (some ⟨b, 0, none⟩)) hS0 rfl rfl (by kernel_rfl) (by kernel_rfl) (by kernel_rfl) (by kernel_rfl) (wanted_none rfl) (fun _ _ _ h => h) (fun U hU => r_nilX (by simp [eval_put_ne, eval_put_eq, size_put, hts])) ?_
  refine tkS 2 21 (v := .pointer (some ⟨b, 2, none⟩)) hS0 rfl rfl (by kernel_rfl) (by kernel_rfl) (by kernel_rfl) (by kernel_rfl) (wanted_none rfl) (fun _ _ _ h => h) (fun U hU => r_fB2 (by simp [eval_put_ne, eval_put_eq, size_put, hts])) ?_
  refine tkS 3 22 (v := .pointer (some ⟨p, 0, none⟩)) hS0 rfl rfl (by kernel_rfl) (by kernel_rfl) (by kernel_rfl) (by kernel_rfl) (wanted_none rfl) (fun _ _ _ h => h) (fun U hU => r_ldPM (by simp [eval_put_ne, eval_put_eq, size_put, hts]) (hU.cell 2)) ?_
  refine tkS 4 23 (v := .pointer (some ⟨b, 0, none⟩)) hS0 rfl rfl (by kernel_rfl) (by kernel_rfl) (by kernel_rfl) (by kernel_rfl) (wanted_none rfl) (fun _ _ _ h => h) (fun U hU => r_move (by simp [eval_put_ne, eval_put_eq, size_put, hts, e0])) ?_
  refine tkS 5 24 (v := .pointer (some ⟨b, 0, none⟩)) hS0 rfl rfl (by kernel_rfl) (by kernel_rfl) (by kernel_rfl) (by kernel_rfl) (wanted_none rfl) (fun _ _ _ h => h) (fun U hU => r_nilX (by simp [eval_put_ne, eval_put_eq, size_put, hts])) ?_
  refine tkS 6 25 (v := .pointer (some ⟨b, 1, none⟩)) hS0 rfl rfl (by kernel_rfl) (by kernel_rfl) (by kernel_rfl) (by kernel_rfl) (wanted_none rfl) (fun _ _ _ h => h) (fun U hU => r_fB1 (by simp [eval_put_ne, eval_put_eq, size_put, hts])) ?_
  refine tkS 7 26 (v := .int .i64 la) hS0 rfl rfl (by kernel_rfl) (by kernel_rfl) (by kernel_rfl) (by kernel_rfl) (wanted_none rfl) (fun _ _ _ h => h) (fun U hU => r_ldI (by simp [eval_put_ne, eval_put_eq, size_put, hts]) (hU.cell 1)) ?_
  refine oneCS 8 27 (by kernel_rfl) rfl rfl (wanted_none rfl) (r_call3 Try.func22 (by kernel_rfl) rfl rfl (by simp [eval_put_ne, eval_put_eq, size_put, hts]) (by simp [eval_put_ne, eval_put_eq, size_put, hts]) rfl) (put_atW w0 p v (entsX E) la ⟨none, 0, 0⟩ HI0.out.m HEl.out) ?_
  rintro e w5 ⟨rfl, v', hm', hk', hf'⟩
  have hb5 : Blk w5 b [.int .i64 n, .int .i64 la, .pointer (some ⟨p, 0, none⟩)] 66 := hk'.blk hS0 HI0.out.nb
  have c5 : w5.cell? ⟨b, 1, none⟩ = some (.int .i64 la) := hb5.cell 1
  have ha := HI0.out.aside hk'
  refine ⟨_, rfl, hb5, ?_⟩
  have hmm : MapW w5 p v' (entsX (putK ltI E la (⟨none, 0, 0⟩, []))) := by
    have e := putK_map (lt := ltI) (fun x : Sl × List Wv => x.1) E la (⟨none, 0, 0⟩, [])
    have hm2 := hm'
    unfold entsX at hm2 ⊢
    rw [← e]
    exact hm2
  have HF : Hid (BStep w w5 b n la (rowsX (putK ltI E la (⟨none, 0, 0⟩, []))) X) := hide (by
    refine ⟨((HK2.out.mono (T := X) (fun k _ e => (HX.out k).2 (.inl e))).trans HKw.out (fun _ _ h => h.elim)).trans hk' (fun k _ hk => (HX.out k).2 (.inr (.inl hk))), _, ⟨p, v', _, ⟨hb5, hmm, fun x hx => ?_⟩, rfl, fun _ => Iff.rfl⟩, ?_⟩
    · rcases mem_putK hx with rfl | hx
      · exact WsOwn.nil _
      · exact ha x hx
    · rintro k (hk | hk | ⟨x, hx', hk⟩)
      · exact .inl ((HX.out k).2 (.inl hk))
      · rcases hf' k hk with h | h
        · exact .inl ((HX.out k).2 (.inr (.inl h)))
        · exact .inr (Nat.le_trans (Nat.le_trans HK2.out.size HKw.out.size) h)
      · rcases mem_putK hx' with rfl | hx'
        · rcases hk with hk | ⟨y, hy, _⟩
          · simp [Value.ownBlock] at hk
          · cases hy
        · exact .inl ((HX.out k).2 (.inr (.inr ⟨x, hx', hk⟩))))
  refine doneS (by kernel_rfl) ?_
  rw [hfr.out]
  clear hfr e0 hts hm' hk' hf' hb5 ha hmm hS0 HI0 HKw HI2 HK2
  simp only [put_lit, put_none, List.set_cons_succ, List.set_cons_zero]
  go_wp2
  go_ret2
  exact ⟨rfl, HF.out⟩

theorem wrs_nil (w : World) (h k : Int) : Calls Try.prog 27 #[.pointer none, .int .i64 h, .int .i64 k] w fun e w' => e = .returned (.tuple #[.slice none 0 0, .int .i64 1]) ∧ w = w' := by
  go_enter Try.func27, Try.ntmps27
  go_wp2
  go_ret2
  exact ⟨rfl, rfl⟩
/-- What writes tells. -/
theorem wrs_at (w : World) (b p : Nat) (v : Value) (n last : Int) (E : List EntX) (h : BkIs w b p v n last E) (hl : E.length ≤ 1000) (t k : Int) :
    Calls Try.prog 27 #[.pointer (some ⟨b, 0, none⟩), .int .i64 t, .int .i64 k] w fun e w' => ∃ s : Sl, e = .returned (.tuple #[.slice s.a s.n s.c, .int .i64 (txErr n (rowsX E) t k)]) ∧ (txErr n (rowsX E) t k = 0 → s = (curX E t).1) ∧ Kept (fun _ => False) w w' := by
  have HC := hide (get_atW w p v (entsX E) t h.m (by rw [entsX_len]; omega))
  have c2 : w.cell? ⟨b, 2, none⟩ = some (.pointer (some ⟨p, 0, none⟩)) := h.blk.cell 2
  have HB := hide h.blk
  have hhas : hasK ltI (entsX E) t = hasK ltI (rowsX E) t := by unfold entsX rowsX; rw [hasK_map, hasK_map]
  rw [hhas, curX_sl] at HC
  unfold txErr
  clear h hhas
  generalize (curX E t).1 = s at *
  generalize rowsX E = L at *
  cases hh : hasK ltI L t with
  | false =>
    rw [hh] at HC
    have H : Calls Try.prog 27 #[.pointer (some ⟨b, 0, none⟩), .int .i64 t, .int .i64 k] w fun e w' => e = .returned (.tuple #[.slice none 0 0, .int .i64 40]) ∧ Kept (fun _ => False) w w' := by
      go_enter Try.func27, Try.ntmps27
      go_wp2_with fail
      refine HC.out.mono ?_
      rintro e w1 ⟨rfl, hk⟩
      go_wp2
      go_ret2
      exact ⟨rfl, hk⟩
    refine H.mono ?_
    rintro e w1 ⟨rfl, hk⟩
    exact ⟨⟨none, 0, 0⟩, by simp, by simp, hk⟩
  | true =>
    rw [hh] at HC
    by_cases h1 : k < 0
    · have H : Calls Try.prog 27 #[.pointer (some ⟨b, 0, none⟩), .int .i64 t, .int .i64 k] w fun e w' => e = .returned (.tuple #[.slice none 0 0, .int .i64 41]) ∧ Kept (fun _ => False) w w' := by
        go_enter Try.func27, Try.ntmps27
        go_wp2_with fail
        refine HC.out.mono ?_
        rintro e w1 ⟨rfl, hk⟩
        go_wp2
        go_ret2
        exact ⟨rfl, hk⟩
      refine H.mono ?_
      rintro e w1 ⟨rfl, hk⟩
      exact ⟨⟨none, 0, 0⟩, by simp [h1], by simp [h1], hk⟩
    · by_cases h2 : n ≤ k
      · have H : Calls Try.prog 27 #[.pointer (some ⟨b, 0, none⟩), .int .i64 t, .int .i64 k] w fun e w' => e = .returned (.tuple #[.slice none 0 0, .int .i64 41]) ∧ Kept (fun _ => False) w w' := by
          go_enter Try.func27, Try.ntmps27
          go_wp2_with fail
          refine HC.out.mono ?_
          rintro e w1 ⟨rfl, hk⟩
          have c0 : w1.cell? ⟨b, 0, none⟩ = some (.int .i64 n) := (hk.blk HB.out (fun h => h)).cell 0
          go_wp2
          go_ret2
          exact ⟨rfl, hk⟩
        refine H.mono ?_
        rintro e w1 ⟨rfl, hk⟩
        exact ⟨⟨none, 0, 0⟩, by simp [h1, h2], by simp [h1, h2], hk⟩
      · have H : Calls Try.prog 27 #[.pointer (some ⟨b, 0, none⟩), .int .i64 t, .int .i64 k] w fun e w' => e = .returned (.tuple #[.slice s.a s.n s.c, .int .i64 0]) ∧ Kept (fun _ => False) w w' := by
          go_enter Try.func27, Try.ntmps27
          go_wp2_with fail
          refine HC.out.mono ?_
          rintro e w1 ⟨rfl, hk⟩
          have c0 : w1.cell? ⟨b, 0, none⟩ = some (.int .i64 n) := (hk.blk HB.out (fun h => h)).cell 0
          go_wp2
          go_ret2
          exact ⟨rfl, hk⟩
        refine H.mono ?_
        rintro e w1 ⟨rfl, hk⟩
        exact ⟨s, by simp [h1, h2], fun _ => rfl, hk⟩
theorem writes_nil (w : World) (h : Int) : Calls Try.prog 9 #[.pointer none, .int .i64 h] w fun e w' => e = .returned (.tuple #[.slice none 0 0, .int .i64 1]) ∧ w = w' := by
  go_enter Try.func9, Try.ntmps9
  go_wp2
  go_ret2
  exact ⟨rfl, rfl⟩
theorem writes_no (w : World) (b : Nat) (n last : Int) (L : Txs) (X : NSet) (h : BkAt w b n last L X) (hl : L.length ≤ 1000) (t : Int) (hh : hasK ltI L t = false) :
    Calls Try.prog 9 #[.pointer (some ⟨b, 0, none⟩), .int .i64 t] w fun e w' => e = .returned (.tuple #[.slice none 0 0, .int .i64 40]) ∧ Kept (fun _ => False) w w' := by
  obtain ⟨p, v, E, h, hL, hx⟩ := h
  have hEL : E.length = L.length := by rw [← hL, rowsX_len]
  have HC := hide (get_atW w p v (entsX E) t h.m (by rw [entsX_len]; omega))
  have c2 : w.cell? ⟨b, 2, none⟩ = some (.pointer (some ⟨p, 0, none⟩)) := h.blk.cell 2
  have hhas : hasK ltI (entsX E) t = hasK ltI L t := by rw [← hL]; unfold entsX rowsX; rw [hasK_map, hasK_map]
  rw [hhas, hh, curX_sl] at HC
  clear h hx hL hhas hEL hh
  generalize (curX E t).1 = s at *
  go_enter Try.func9, Try.ntmps9
  go_wp2_with fail
  refine HC.out.mono ?_
  rintro e w1 ⟨rfl, hk⟩
  go_wp2
  go_ret2
  exact ⟨rfl, hk⟩
theorem writes_ok (w : World) (b : Nat) (n last : Int) (L : Txs) (X : NSet) (h : BkAt w b n last L X) (hl : L.length ≤ 1000) (c : Nat) (hc : c ≤ 1000) (hok : okTx c L) (t : Int) (hh : hasK ltI L t = true) :
    Calls Try.prog 9 #[.pointer (some ⟨b, 0, none⟩), .int .i64 t] w fun e w' => ∃ (s : Sl) (ws : List Wv), e = .returned (.tuple #[.slice s.a s.n s.c, .int .i64 0]) ∧ WsAt w' s.v ws ∧ ws.map Wv.wr = valK ltI [] L t ∧ Kept (fun _ => False) w w' := by
  obtain ⟨p, v, E, h, hL, hx⟩ := h
  have hEL : E.length = L.length := by rw [← hL, rowsX_len]
  have HC := hide (get_atW w p v (entsX E) t h.m (by rw [entsX_len]; omega))
  have c2 : w.cell? ⟨b, 2, none⟩ = some (.pointer (some ⟨p, 0, none⟩)) := h.blk.cell 2
  have hhas : hasK ltI (entsX E) t = hasK ltI L t := by rw [← hL]; unfold entsX rowsX; rw [hasK_map, hasK_map]
  rw [hhas, hh, curX_sl] at HC
  have hcur := h.cur t
  have hrow := curX_rows E t
  rw [hL] at hrow
  have hv := hok.val t
  rw [hrow] at hv ⊢
  clear h hx hL hhas hEL hh hrow hok
  generalize hce : curX E t = ce at *
  clear hce
  obtain ⟨⟨sa, sn, sc⟩, cw⟩ := ce
  simp only at hcur hv HC ⊢
  rw [List.length_map] at hv
  have HCu := hide (hcur.at (by omega))
  have HV : Hid ((allV [((⟨sa, sn, sc⟩ : Sl), cw)]).length ≤ 1000000 ∧ (∀ y ∈ allV [((⟨sa, sn, sc⟩ : Sl), cw)], y.B.length ≤ 90000000) ∧ allV [((⟨sa, sn, sc⟩ : Sl), cw)] = cw) := hide (by
    have e : allV [((⟨sa, sn, sc⟩ : Sl), cw)] = cw := by simp [allV]
    rw [e]
    refine ⟨by omega, fun y hy => ?_, rfl⟩
    have := hv.2.1 y.wr (List.mem_map_of_mem hy)
    have e2 : y.wr.B = y.B := rfl
    rw [e2] at this
    omega)
  have HRi := hide (merge_self hv.2.2)
  clear hcur hv
  go_enter Try.func9, Try.ntmps9
  go_wp2_with fail
  refine HC.out.mono ?_
  rintro e w1 ⟨rfl, hk⟩
  have HK1 := hide hk
  clear hk c2
  go_wp2_with (with_reducible refine stop_bs 78 ?_)
  refine hide ?_
  refine wpList_run rfl (r_ls1 rfl) ?_
  have hb2 := Blk.new w1 [Value.slice sa sn sc] 33
  have hk2 : Kept (fun _ => False) w1 (w1.alloc (.cells [Value.slice sa sn sc].toArray 33)) := Kept.alloc _ _ _
  obtain ⟨g, hg⟩ : ∃ g, w1.heap.size = g := ⟨_, rfl⟩
  rw [hg] at hb2 ⊢
  generalize w1.alloc (.cells [Value.slice sa sn sc].toArray 33) = w2 at hb2 hk2 ⊢
  have HK2 := hide (HK1.out.trans hk2 (fun _ _ h => h))
  have HLs : Hid (LsAt w2 (.slice (some ⟨g, 0, none⟩) 1 1) [((⟨sa, sn, sc⟩ : Sl), cw)]) := hide (ls_blk hb2 rfl (fun x hx => by rw [List.mem_singleton] at hx; subst hx; exact HCu.out.kept HK2.out) 1 rfl (by decide))
  clear hb2 hk2 HK1 hg
  simp only [put_lit, List.set_cons_succ, List.set_cons_zero]
  go_wp2_with fail
  refine (merge_at w2 _ _ HLs.out HV.out.1 HV.out.2.1).mono ?_
  rintro e w3 ⟨⟨ta, tn, tc⟩, ws, rfl, hown, hwr, hwl, hk3, hnew, hge⟩
  have HO := hide (hown.at (by omega))
  have HW := hide hwr
  have HK3 := hide (HK2.out.trans hk3 (fun _ _ h => h))
  clear hown hwr hwl hk3 hnew hge
  go_wp2
  go_ret2
  exact ⟨⟨ta, tn, tc⟩, ws, rfl, HO.out, by rw [HW.out, HV.out.2.2, HRi.out], HK3.out⟩
end Go.Proofs.Ytclfklcboigifaa
