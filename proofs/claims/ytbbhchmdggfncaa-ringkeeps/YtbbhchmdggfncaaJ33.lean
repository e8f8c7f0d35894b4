/-
  Walk, of package ring: of right arguments, a sequence of its own; of wrong ones, one of nothing.
-/
import Derived.Test.YtbbhchmdggfncaaJ31
import Derived.Test.YtbbhchmdggfncaaJ32
namespace Go.Proofs.Ytbbhchmdggfncaa
open Go.RowKit Go.Shelf
set_option linter.unusedSimpArgs false
set_option linter.unusedVariables false
set_option maxRecDepth 100000

theorem Try.info56 : (Try.prog.info? 56).map (fun i => (i.zero, i.size, i.bytes)) = some (some (.agg #[.int .i64 0, .int .i64 0]), 2, 16) := by kernel_rfl
theorem Try.agg56 : aggSize Try.prog 56 2 := by
  obtain ⟨i0, hi, _, hs, _⟩ := info_parts Try.info56
  exact ⟨⟨i0, hi, hs⟩, _, Try.underlying56, .inl ⟨_, _, rfl⟩⟩
section
variable {ρ : Operand → Value} {w : World} {dst : Option Tmp} {ty : TypeId} {pos : String} {aft : Array Edge} {gd : Option (Nat × Bool)} {x : Operand}
theorem r_rgeps {b : Nat} {e0 e1 : Int} (hx : ρ x = .pointer (some ⟨b, 0, none⟩)) (hb : Blk w b [.int .i64 e0, .int .i64 e1] 56) : (execOp ρ ⟨dst, .load 56 x, ty, pos, aft, gd⟩).run Try.prog w = .ok (.value (.agg #[.int .i64 e0, .int .i64 e1])) w := by
  simpa using run_load_agg (P := Try.prog) (ρ := ρ) (w := w) (dst := dst) (t := 56) (ty := ty) (x := x) (pos := pos) (aft := aft) (gd := gd) (off := 0) Try.agg56 hx hb (by simp)
end
set_option maxHeartbeats 4000000 in
theorem rgwalk_at (W : World) (so : Option Addr) (cap size : Nat) (B : List Nat) (lsn e0 e1 : Int) (hs : Src W (.slice so (64 * size) cap) B) (hz : 0 < size ∧ size ≤ 15000) (hl : 0 ≤ lsn ∧ lsn ≤ 2305843009213693952) :
    Calls Try.prog 16 #[.slice so (64 * size) cap, .int .i64 lsn, .agg #[.int .i64 e0, .int .i64 e1]] W fun e W' => ∃ b1 b2 b3 b4 v, e = .returned (.func (.func 48) #[] #[.pointer (some ⟨b1, 0, none⟩), .pointer (some ⟨b2, 0, none⟩), .pointer (some ⟨b3, 0, none⟩), .pointer (some ⟨b4, 0, none⟩)]) ∧
      SeqOk Try.prog (.func (.func 48) #[] #[.pointer (some ⟨b1, 0, none⟩), .pointer (some ⟨b2, 0, none⟩), .pointer (some ⟨b3, 0, none⟩), .pointer (some ⟨b4, 0, none⟩)]) EEn (walkB size e1 B (size + 1) (lsn.toNat % size) lsn e0) (enX b1 b2 b3 b4 v) (fun _ => False) (fun _ _ _ => True) W' ∧ Src W' v B ∧ Kept (fun _ => False) W W' ∧ W.heap.size ≤ b1 ∧ W.heap.size ≤ b2 ∧ W.heap.size ≤ b3 ∧ W.heap.size ≤ b4 := by
  obtain ⟨n, hn⟩ : ∃ n, n = 64 * size := ⟨_, rfl⟩
  rw [← hn] at hs ⊢
  have hBn : B.length = n := by obtain ⟨bo, c, h, _⟩ := hs; cases h; rfl
  have hn0 : ¬ (n : Int) = 0 := by omega
  have hq : (n : Int).tmod 64 = 0 := by rw [Int.tmod_eq_emod_of_nonneg (by omega), hn]; omega
  have HW := hide (rgwithin_at W lsn 0 2305843009213693952 true (by rw [decide_eq_true_eq]; exact hl))
  have HS := hide hs
  have HBn := hide hBn
  have Hn := hide hn
  have Hz := hide hz
  have Hl := hide hl
  clear hn hz hl hs hBn
  go_enter Try.func16, Try.ntmps16
  go_wp2_with (first
    | ((with_reducible refine aw_box (t := 56) (v := .agg #[.int .i64 e0, .int .i64 e1]) rfl ?_); intro w1 hb1 hk1 hz1; have Hb1 := hide hb1; have Hk1 := hide hk1; clear hz1 hb1 hk1)
    | fail)
  refine (rgwithin_at _ lsn 0 2305843009213693952 true (by rw [decide_eq_true_eq]; exact Hl.out)).mono ?_
  rintro e w' ⟨rfl, rfl⟩
  go_wp2_with fail
  refine hold_frame (p := fun fr => Code.wp Try.prog _ _ fr _) ?_
  intro fr hfr
  obtain ⟨c, hc⟩ : ∃ c, c = W.heap.size := ⟨_, rfl⟩
  rw [← hc] at hfr Hb1
  have e0' : fr.eval (.tmp 0) = .slice so n cap := by rw [hfr.out]; rfl
  have e1' : fr.eval (.tmp 1) = .int .i64 lsn := by rw [hfr.out]; rfl
  have e5' : fr.eval (.tmp 5) = .pointer (some ⟨c, 0, none⟩) := by rw [hfr.out]; rfl
  have hts : fr.tmps.size = 26 := by rw [hfr.out]; rfl
  refine region_S0 99 Try.mixed ?_
  intro w0 hkw hheap
  have HK := hide (Hk1.out.trans hkw (fun _ _ h => h))
  have HBw := hkw.blk Hb1.out (fun h => h)
  have HSw := HS.out.kept HK.out
  have hS0 : Kept (fun _ => False) w0 w0 := Kept.refl _ w0
  refine ⟨Kept (fun _ => False) w0, ?_⟩
  refine tkS 0 21 (v := .slice so n cap) hS0 rfl rfl (by kernel_rfl) (by kernel_rfl) (by kernel_rfl) (by kernel_rfl) (wanted_none rfl) (fun _ _ _ h => h) (fun U hU => r_move (by simp [eval_put_ne, eval_put_eq, size_put, hts, e0'])) ?_
  refine tkS 2 23 (v := .int .i64 lsn) hS0 rfl rfl (by kernel_rfl) (by kernel_rfl) (by kernel_rfl) (by kernel_rfl) (wanted_none rfl) (fun _ _ _ h => h) (fun U hU => r_move (by simp [eval_put_ne, eval_put_eq, size_put, hts, e1'])) ?_
  refine tkS 3 24 (v := .agg #[.int .i64 e0, .int .i64 e1]) hS0 rfl rfl (by kernel_rfl) (by kernel_rfl) (by kernel_rfl) (by kernel_rfl) (wanted_none rfl) (fun _ _ _ h => h) (fun U hU => r_rgeps (b := c) (by simp [eval_put_ne, eval_put_eq, size_put, hts, e5']) (hU.blk HBw (fun h => h))) ?_
  refine oneCS 1 22 (by kernel_rfl) rfl rfl (wanted_none rfl) (r_call1 Try.func40 (by kernel_rfl) rfl rfl (by simp [eval_put_ne, eval_put_eq, size_put, hts])) (bclone_at w0 _ B HSw (by have := HBn.out; have := Hn.out; have := Hz.out; omega)) ?_
  rintro e v1 ⟨⟨sa, sn, sc⟩, rfl, ho1, k1⟩
  refine ⟨_, rfl, k1, ?_⟩
  have hs1 := ho1.src
  obtain rfl : sn = 64 * size := by
    obtain ⟨bo, c2, h, _⟩ := hs1
    cases h
    rw [HBn.out, Hn.out]
  refine oneCS 4 25 (by kernel_rfl) rfl rfl (wanted_none rfl) (r_call3 Try.func36 (by kernel_rfl) rfl rfl (by simp [eval_put_ne, eval_put_eq, size_put, hts]) (by simp [eval_put_ne, eval_put_eq, size_put, hts]) (by simp [eval_put_ne, eval_put_eq, size_put, hts])) (entries_at v1 sa size sc lsn e0 e1 Hz.out.2) ?_
  rintro e v2 ⟨b1, b2, b3, b4, rfl, q1, q2, q3, q4, k2, g1, g2, g3, g4⟩
  have kk := k1.trans k2 (fun _ _ h => h)
  refine ⟨_, rfl, kk, ?_⟩
  have hsz : W.heap.size ≤ v1.heap.size := Nat.le_trans HK.out.size k1.size
  have hs2 : Src v2 (.slice sa (64 * size) sc) B := hs1.kept k2
  have HOK := hide (entries_ok (e0 := e0) (e1 := e1) q1 q2 q3 q4 hs2 (by rw [HBn.out, Hn.out]) Hz.out ⟨Hl.out.1, by have := Hl.out.2; omega⟩)
  have HKK := hide (HK.out.trans kk (fun _ _ h => h))
  have HS2 := hide hs2
  refine tkS 5 6 (v := .func (.func 48) #[] #[.pointer (some ⟨b1, 0, none⟩), .pointer (some ⟨b2, 0, none⟩), .pointer (some ⟨b3, 0, none⟩), .pointer (some ⟨b4, 0, none⟩)]) kk rfl rfl (by kernel_rfl) (by kernel_rfl) (by kernel_rfl) (by kernel_rfl) (wanted_none rfl) (fun _ _ _ h => h) (fun U hU => r_assign (by simp [eval_put_ne, eval_put_eq, size_put, hts])) ?_
  refine doneS (by kernel_rfl) ?_
  rw [hfr.out]
  clear hfr e0' e1' e5' hts
  simp only [put_lit, put_none, List.set_cons_succ, List.set_cons_zero]
  clear hS0 hs1 hs2 ho1 k1 k2 kk hkw hheap HBw HSw q1 q2 q3 q4
  go_wp2
  go_ret
  exact ⟨b1, b2, b3, b4, _, rfl, HOK.out, HS2.out, HKK.out, by omega, by omega, by omega, by omega⟩

end Go.Proofs.Ytbbhchmdggfncaa
