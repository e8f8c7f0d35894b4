/-
  The walk of CrcJoins: it answers true, and touches nothing that was there.
-/
import Derived.Test.YteacfkbchgjcbaaFirst
namespace Go.Proofs.Yteacfkbchgjcbaa
open Go.RowKit Go.Shelf
set_option linter.unusedSimpArgs false
set_option linter.unusedVariables false

section
variable {ρ : Operand → Value} {w : World} {dst : Option Tmp} {ty : TypeId} {pos : String} {aft : Array Edge} {gd : Option (Nat × Bool)} {x y z : Operand}
theorem r_neq23 {p q : Nat} (hx : ρ x = .int .u32 p) (hy : ρ y = .int .u32 q) : (execOp ρ ⟨dst, .binOp .neq 23 x y 23, ty, pos, aft, gd⟩).run Try.prog w = .ok (.value (.bool (decide (p ≠ q)))) w := by
  go_simp
  rw [Bool.eq_iff_iff]; simp; omega
theorem r_eql5 {p q : Nat} (hx : ρ x = .int .u8 p) (hy : ρ y = .int .u8 q) : (execOp ρ ⟨dst, .binOp .eql 5 x y 5, ty, pos, aft, gd⟩).run Try.prog w = .ok (.value (.bool (decide (p = q)))) w := by
  go_simp
  rw [Bool.eq_iff_iff]; simp; omega
theorem r_idx22 {b off len cap : Nat} (i : Nat) {k : IntKind} (hx : ρ x = .slice (some ⟨b, off, none⟩) len cap) (hy : ρ y = .int k i) (hi : i < len) :
    (execOp ρ ⟨dst, .indexAddr 22 x y, ty, pos, aft, gd⟩).run Try.prog w = .ok (.value (.pointer (some ⟨b, off + i, none⟩))) w := by
  have h0 : ¬ ((i : Int) < 0) := by omega
  have h1 : (i : Int) < (len : Int) := by omega
  go_simp
theorem r_ld5 {b o : Nat} {v : Value} (hx : ρ x = .pointer (some ⟨b, o, none⟩)) (hc : w.cell? ⟨b, o, none⟩ = some v) : (execOp ρ ⟨dst, .load 5 x, ty, pos, aft, gd⟩).run Try.prog w = .ok (.value v) w := by
  go_simp
end

set_option maxHeartbeats 1000000 in
theorem joins_out (w : World) (bo : Option Addr) (len cap : Nat) (x y : Int) (hl : len ≤ 9223372036854775807) (h : 3000 < len ∨ len = 0) :
    Calls Try.prog 5 #[.slice bo len cap, .int .u16 x, .int .u8 y] w fun e w' => e = .returned (.bool true) ∧ Kept (fun _ => False) w w' := by
  rcases h with h | h
  · go_enter Try.func5, Try.ntmps5
    go_wp2_with (go_at_call 6; refine (first_any w).mono ?_; rintro e w1 ⟨rfl, hk⟩)
    go_ret
    exact ⟨rfl, hk⟩
  · subst h
    go_enter Try.func5, Try.ntmps5
    go_wp2_with (go_at_call 6; refine (first_any w).mono ?_; rintro e w1 ⟨rfl, hk⟩)
    go_ret
    exact ⟨rfl, hk⟩

set_option maxRecDepth 100000 in
set_option maxHeartbeats 2000000 in
theorem joins_any (w : World) (v : Value) (B : List Nat) (hs : Src w v B) (x c : Nat) (hx : x < 65536) (hc : c < 256) (h0 : 0 < B.length) (h3 : B.length ≤ 3000) :
    Calls Try.prog 5 #[v, .int .u16 x, .int .u8 c] w fun e w' => e = .returned (.bool true) ∧ Kept (fun _ => False) w w' := by
  have hB := hs.lt
  have HB := hide hB
  have hs0 := hs
  obtain ⟨bo, cap, hv, hcap, _, hsrc, _⟩ := hs
  obtain ⟨sb, so, hbo, hcells⟩ := hsrc h0
  subst hbo
  subst hv
  have HSC := hide hcells
  obtain ⟨len, hlen⟩ : ∃ len, B.length = len := ⟨_, rfl⟩
  obtain ⟨n, hi⟩ : ∃ n, n = x % len := ⟨_, rfl⟩
  have hil : n < len := by rw [hi]; exact Nat.mod_lt _ (by omega)
  have hmod : ((x : Int)) % (len : Int) = (n : Int) := by rw [hi]; push_cast; rfl
  have hwx : IntKind.i64.wrap (x : Int) = (x : Int) := by rw [IntKind.wrap_i64]; omega
  obtain ⟨y, hy⟩ : ∃ y, B[n] = y := ⟨_, rfl⟩
  have HYc : Hid ((BV B)[n]? = some (.int .u8 (y : Int))) := hide (by rw [BV_get B n (by omega), hy])
  have HTold : Hid (decide (joinN 0 (B.set n c) = joinN 0 B) = decide (c = y)) := hide (by rw [decide_eq_decide, ← hy]; exact joinN_told 0 B n c hB hc (by omega))
  obtain ⟨T, hT⟩ : ∃ T, B.take n = T := ⟨_, rfl⟩
  obtain ⟨D, hD⟩ : ∃ D, B.drop n = D := ⟨_, rfl⟩
  have hTl : T.length = n := by rw [← hT, List.length_take]; omega
  have hDl : D.length = len - n := by rw [← hD, List.length_drop]; omega
  have hTB : ∀ x ∈ T, x < 256 := fun x hx => hB x (by rw [← hT] at hx; exact List.mem_of_mem_take hx)
  have HJ : Hid (joinN (joinN 0 T) D = joinN 0 B) := hide (by rw [joinN_join 0 T D (by decide) hTB, ← hT, ← hD, List.take_append_drop])
  have HT : Hid (Src w (.slice (some ⟨sb, so, none⟩) n cap) T) := hide ⟨_, _, by rw [hTl], by omega, hTB, fun _ => ⟨sb, so, rfl, by
    have := hcells.part 0 n
    rw [List.drop_zero, ← BV_take, hT] at this
    simpa using this⟩, fun h => by cases h⟩
  have HD : Hid (Src w (.slice (some ⟨sb, so + n, none⟩) (len - n) (cap - n)) D) := hide ⟨_, _, by rw [hDl], by omega, fun x hx => hB x (by rw [← hD] at hx; exact List.mem_of_mem_drop hx), fun _ => ⟨sb, so + n, rfl, by
    have := hcells.part n (len - n)
    rw [← BV_drop, hD, List.take_of_length_le (by rw [BV_length, hDl]; exact Nat.le_refl _)] at this
    exact this⟩, fun h => by cases h⟩
  rw [hlen] at h0 h3 hcap hs0 ⊢
  have hne : ((len : Int) == 0) = false := by simp; omega
  have HS := hide hs0
  have HLen := hide hlen
  clear hB hs0 hsrc hcells hi hy hT hD hTB hlen
  go_enter Try.func5, Try.ntmps5
  go_wp2_with fail
  refine (first_any w).mono ?_
  rintro e w1 ⟨rfl, hk1⟩
  go_wp2_with fail
  rw [hmod]
  clear hmod hwx
  refine hold_frame (p := fun fr => Code.wp Try.prog _ _ fr _) ?_
  intro fr hfr
  have e0 : fr.eval (.tmp 0) = .slice (some ⟨sb, so, none⟩) len cap := by rw [hfr.out]; rfl
  have e7 : fr.eval (.tmp 7) = .int .i64 n := by rw [hfr.out]; rfl
  have hts : fr.tmps.size = 54 := by rw [hfr.out]; rfl
  refine region_kept Try.mixed ?_
  intro w0 hkw hheap
  have hk0 := Kept.refl (fun _ => False) w0
  refine tkK 0 24 (v := .slice (some ⟨sb, so, none⟩) len cap) hk0 rfl rfl (by kernel_rfl) (by kernel_rfl) (by kernel_rfl) (wanted_none rfl) (fun _ _ _ h => h) (fun U hU => r_move (by simp [eval_put_ne, eval_put_eq, size_put, hts, e0])) ?_
  refine tkK 1 25 (v := .int .i64 n) hk0 rfl rfl (by kernel_rfl) (by kernel_rfl) (by kernel_rfl) (wanted_none rfl) (fun _ _ _ h => h) (fun U hU => r_move (by simp [eval_put_ne, eval_put_eq, size_put, hts, e7])) ?_
  refine tkK 2 26 (v := .slice (some ⟨sb, so, none⟩) n cap) hk0 rfl rfl (by kernel_rfl) (by kernel_rfl) (by kernel_rfl) (wanted_none rfl) (fun _ _ _ h => h) (fun U hU => r_hi22 (len := len) n (k := .i64) (by simp [eval_put_ne, eval_put_eq, size_put, hts]) (by simp [eval_put_ne, eval_put_eq, size_put, hts]) (by omega)) ?_
  refine tkK 4 28 (v := .slice (some ⟨sb, so, none⟩) len cap) hk0 rfl rfl (by kernel_rfl) (by kernel_rfl) (by kernel_rfl) (wanted_none rfl) (fun _ _ _ h => h) (fun U hU => r_move (by simp [eval_put_ne, eval_put_eq, size_put, hts, e0])) ?_
  refine tkK 5 29 (v := .int .i64 n) hk0 rfl rfl (by kernel_rfl) (by kernel_rfl) (by kernel_rfl) (wanted_none rfl) (fun _ _ _ h => h) (fun U hU => r_move (by simp [eval_put_ne, eval_put_eq, size_put, hts, e7])) ?_
  refine tkK 6 30 (v := .slice (some ⟨sb, so + n, none⟩) (len - n) (cap - n)) hk0 rfl rfl (by kernel_rfl) (by kernel_rfl) (by kernel_rfl) (wanted_none rfl) (fun _ _ _ h => h) (fun U hU => r_lo22 n (k := .i64) (by simp [eval_put_ne, eval_put_eq, size_put, hts]) (by simp [eval_put_ne, eval_put_eq, size_put, hts]) (by omega) (by omega)) ?_
  refine tkK 8 32 (v := .slice (some ⟨sb, so, none⟩) len cap) hk0 rfl rfl (by kernel_rfl) (by kernel_rfl) (by kernel_rfl) (wanted_none rfl) (fun _ _ _ h => h) (fun U hU => r_move (by simp [eval_put_ne, eval_put_eq, size_put, hts, e0])) ?_
  refine oneC 3 27 (by kernel_rfl) rfl rfl (wanted_none rfl) (r_call1 Try.func7 (by kernel_rfl) rfl rfl (by simp [eval_put_ne, eval_put_eq, size_put, hts])) (sum_at w0 _ T (HT.out.kept (hk1.trans hkw (fun _ _ h => h))) (by omega)) ?_
  rintro e w9 ⟨rfl, rfl⟩
  refine ⟨_, rfl, hk0, ?_⟩
  refine oneC 7 31 (by kernel_rfl) rfl rfl (wanted_none rfl) (r_call2 Try.func9 (by kernel_rfl) rfl rfl (by simp [eval_put_ne, eval_put_eq, size_put, hts]) (by simp [eval_put_ne, eval_put_eq, size_put, hts])) (join_at w0 (joinN 0 T) (joinN_lt _ _) _ D (HD.out.kept (hk1.trans hkw (fun _ _ h => h))) (by omega)) ?_
  rintro e w9 ⟨rfl, rfl⟩
  refine ⟨_, rfl, hk0, ?_⟩
  refine oneC 9 33 (by kernel_rfl) rfl rfl (wanted_none rfl) (r_call1 Try.func7 (by kernel_rfl) rfl rfl (by simp [eval_put_ne, eval_put_eq, size_put, hts])) (sum_at w0 _ B (HS.out.kept (hk1.trans hkw (fun _ _ h => h))) (by rw [HLen.out]; omega)) ?_
  rintro e w9 ⟨rfl, rfl⟩
  refine ⟨_, rfl, hk0, ?_⟩
  refine tkK 10 34 (v := .bool false) hk0 rfl rfl (by kernel_rfl) (by kernel_rfl) (by kernel_rfl) (wanted_none rfl) (fun _ _ _ h => h) (fun U hU => (r_neq23 (p := joinN (joinN 0 T) D) (q := joinN 0 B) (by simp [eval_put_ne, eval_put_eq, size_put, hts]) (by simp [eval_put_ne, eval_put_eq, size_put, hts])).trans (by rw [HJ.out]; simp)) ?_
  refine wpAnyH_done (by kernel_rfl) ?_ _
  rw [hfr.out]
  clear hfr e0 e7 hts
  simp only [put_lit, List.set_cons_succ, List.set_cons_zero]
  have hk2 := hk1.trans hkw (fun _ _ h => h)
  clear hk1 hkw hk0 hheap
  go_wp2_with (with_reducible refine stop_append 22 ?_)
  refine hide ?_
  obtain ⟨v', w3, hr, hown, hk3⟩ := append_src (Own.new w0) (HS.out.kept (hk2.trans (Kept.alloc (fun _ => False) w0 (.cells #[] 5)) (fun _ _ h => h))) (by rw [HLen.out]; simp; omega) (by simp) 22
  rw [List.nil_append] at hown
  refine wpList_run rfl (r_append22 rfl rfl hr) ?_
  have hk4 : Kept (fun k => w0.heap.size ≤ k) w0 w3 := ((Kept.alloc (fun _ => False) w0 (.cells #[] 5)).mono (fun _ _ h => h.elim)).trans hk3 (fun _ _ h => h)
  rcases hown.1.2 with ⟨_, hbad⟩ | ⟨gx, capx, cur, rfl, hbx, hgx, hnc, hcm, hcs, htake⟩
  · rw [HLen.out] at hbad; omega
  have hbk : Blk w3 gx cur.toList 5 := by unfold Blk; simpa using hgx
  rw [HLen.out] at hnc htake ⊢
  rw [Nat.mul_one] at htake
  have hcn : cur.toList[n]? = some (.int .u8 (y : Int)) := by
    have h1 := HYc.out
    rw [← htake, List.getElem?_take, if_pos hil] at h1
    exact h1
  have c0 := (hbk.cell n).trans hcn
  have f0 := hbk.frozen n
  have hb5 := hbk.setCell n (.int .u8 (c : Int))
  have hset : (cur.toList.set n (.int .u8 (c : Int))).take (B.set n c).length = BV (B.set n c) := by
    rw [List.length_set, HLen.out, List.take_set, htake]
    simp [BV]
  have hsx := hb5.src hset (fun x hx => by
    rcases List.mem_or_eq_of_mem_set hx with h | h
    · exact HB.out x h
    · omega) (cap := capx) (by rw [List.length_set, HLen.out]; exact hnc)
  rw [List.length_set, HLen.out] at hsx
  have HX := hide hsx
  have hk6 : Kept (fun _ => False) w (w3.setCell ⟨gx, n, none⟩ (.int .u8 (c : Int))) := (hk2.trans hk4 (fun k hk e => by have := hk2.size; omega)).trans (Kept.setCell (S := fun k => k = gx) w3 ⟨gx, n, none⟩ _ rfl) (fun k hk e => by have := hk2.size; omega)
  clear hr hown hk3 hk4 hbx hgx hcm hcs htake hbk hcn hb5 hset hsx
  go_wp2
  clear c0 f0
  generalize w3.setCell ⟨gx, n, none⟩ (.int .u8 (c : Int)) = w5 at *
  refine hold_frame (p := fun fr => Code.wp Try.prog _ _ fr _) ?_
  intro fr hfr
  have e0 : fr.eval (.tmp 0) = .slice (some ⟨sb, so, none⟩) len cap := by rw [hfr.out]; rfl
  have e2 : fr.eval (.tmp 2) = .int .u8 (c : Int) := by rw [hfr.out]; rfl
  have e7 : fr.eval (.tmp 7) = .int .i64 n := by rw [hfr.out]; rfl
  have e8 : fr.eval (.tmp 8) = .slice (some ⟨gx, 0, none⟩) len capx := by rw [hfr.out]; rfl
  have hts : fr.tmps.size = 54 := by rw [hfr.out]; rfl
  refine region_kept Try.mixed ?_
  intro w6 hkw hheap
  have hk0 := Kept.refl (fun _ => False) w6
  refine tkK 0 42 (v := .slice (some ⟨gx, 0, none⟩) len capx) hk0 rfl rfl (by kernel_rfl) (by kernel_rfl) (by kernel_rfl) (wanted_none rfl) (fun _ _ _ h => h) (fun U hU => r_move (by simp [eval_put_ne, eval_put_eq, size_put, hts, e8])) ?_
  refine tkK 2 44 (v := .slice (some ⟨sb, so, none⟩) len cap) hk0 rfl rfl (by kernel_rfl) (by kernel_rfl) (by kernel_rfl) (wanted_none rfl) (fun _ _ _ h => h) (fun U hU => r_move (by simp [eval_put_ne, eval_put_eq, size_put, hts, e0])) ?_
  refine tkK 5 47 (v := .int .u8 (c : Int)) hk0 rfl rfl (by kernel_rfl) (by kernel_rfl) (by kernel_rfl) (wanted_none rfl) (fun _ _ _ h => h) (fun U hU => r_move (by simp [eval_put_ne, eval_put_eq, size_put, hts, e2])) ?_
  refine tkK 6 48 (v := .slice (some ⟨sb, so, none⟩) len cap) hk0 rfl rfl (by kernel_rfl) (by kernel_rfl) (by kernel_rfl) (wanted_none rfl) (fun _ _ _ h => h) (fun U hU => r_move (by simp [eval_put_ne, eval_put_eq, size_put, hts, e0])) ?_
  refine tkK 7 49 (v := .int .i64 n) hk0 rfl rfl (by kernel_rfl) (by kernel_rfl) (by kernel_rfl) (wanted_none rfl) (fun _ _ _ h => h) (fun U hU => r_move (by simp [eval_put_ne, eval_put_eq, size_put, hts, e7])) ?_
  refine tkK 8 50 (v := .pointer (some ⟨sb, so + n, none⟩)) hk0 rfl rfl (by kernel_rfl) (by kernel_rfl) (by kernel_rfl) (wanted_none rfl) (fun _ _ _ h => h) (fun U hU => r_idx22 (len := len) (cap := cap) n (k := .i64) (by simp [eval_put_ne, eval_put_eq, size_put, hts]) (by simp [eval_put_ne, eval_put_eq, size_put, hts]) (by omega)) ?_
  refine tkK 9 51 (v := .int .u8 (y : Int)) hk0 rfl rfl (by kernel_rfl) (by kernel_rfl) (by kernel_rfl) (wanted_none rfl) (fun _ _ _ h => h) (fun U hU => r_ld5 (by simp [eval_put_ne, eval_put_eq, size_put, hts]) ((hk6.trans (hkw.trans hU (fun _ _ h => h)) (fun _ _ h => h)).cells HSC.out (fun h => h) n _ HYc.out)) ?_
  refine tkK 10 52 (v := .bool (decide (c = y))) hk0 rfl rfl (by kernel_rfl) (by kernel_rfl) (by kernel_rfl) (wanted_none rfl) (fun _ _ _ h => h) (fun U hU => r_eql5 (p := c) (q := y) (by simp [eval_put_ne, eval_put_eq, size_put, hts]) (by simp [eval_put_ne, eval_put_eq, size_put, hts])) ?_
  refine oneC 1 43 (by kernel_rfl) rfl rfl (wanted_none rfl) (r_call1 Try.func7 (by kernel_rfl) rfl rfl (by simp [eval_put_ne, eval_put_eq, size_put, hts])) (sum_at w6 _ (B.set n c) (HX.out.kept hkw) (by rw [List.length_set, HLen.out]; omega)) ?_
  rintro e w9 ⟨rfl, rfl⟩
  refine ⟨_, rfl, hk0, ?_⟩
  refine oneC 3 45 (by kernel_rfl) rfl rfl (wanted_none rfl) (r_call1 Try.func7 (by kernel_rfl) rfl rfl (by simp [eval_put_ne, eval_put_eq, size_put, hts])) (sum_at w6 _ B (HS.out.kept (hk6.trans hkw (fun _ _ h => h))) (by rw [HLen.out]; omega)) ?_
  rintro e w9 ⟨rfl, rfl⟩
  refine ⟨_, rfl, hk0, ?_⟩
  refine tkK 4 46 (v := .bool (decide (c = y))) hk0 rfl rfl (by kernel_rfl) (by kernel_rfl) (by kernel_rfl) (wanted_none rfl) (fun _ _ _ h => h) (fun U hU => (r_eql23 (p := joinN 0 (B.set n c)) (q := joinN 0 B) (by simp [eval_put_ne, eval_put_eq, size_put, hts]) (by simp [eval_put_ne, eval_put_eq, size_put, hts])).trans (by rw [HTold.out])) ?_
  refine tkK 11 53 (v := .bool true) hk0 rfl rfl (by kernel_rfl) (by kernel_rfl) (by kernel_rfl) (wanted_none rfl) (fun _ _ _ h => h) (fun U hU => (r_eql4 (p := decide (c = y)) (q := decide (c = y)) (by simp [eval_put_ne, eval_put_eq, size_put, hts]) (by simp [eval_put_ne, eval_put_eq, size_put, hts])).trans (by simp)) ?_
  refine tkK 12 6 (v := .bool true) hk0 rfl rfl (by kernel_rfl) (by kernel_rfl) (by kernel_rfl) (wanted_none rfl) (fun _ _ _ h => h) (fun U hU => r_assign (by simp [eval_put_ne, eval_put_eq, size_put, hts])) ?_
  refine wpAnyH_done (by kernel_rfl) ?_ _
  rw [hfr.out]
  clear hfr
  simp only [put_lit, List.set_cons_succ, List.set_cons_zero]
  have hkf := hk6.trans hkw (fun _ _ h => h)
  go_wp2
  go_ret
  exact ⟨rfl, hkf⟩

end Go.Proofs.Yteacfkbchgjcbaa
