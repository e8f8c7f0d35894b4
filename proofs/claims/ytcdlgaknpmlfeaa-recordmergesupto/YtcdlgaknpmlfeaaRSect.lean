/-
  frame.within, frame.Sectors; Sectors, of package record; great, of the law.
-/
import Derived.Test.YtcdlgaknpmlfeaaRPutR
namespace Go.Proofs.Ytcdlgaknpmlfeaa
open Go.RowKit Go.Shelf
set_option linter.unusedSimpArgs false
set_option linter.unusedVariables false

set_option maxHeartbeats 1000000 in
theorem within_at (w : World) (n m : Int) (b : Bool) (hb : decide (0 ≤ n ∧ n ≤ m) = b) : Calls Try.prog 45 #[.int .i64 n, .int .i64 m] w fun e w' => e = .returned (.bool b) ∧ w = w' := by
  by_cases h1 : 0 ≤ n
  · by_cases h2 : n ≤ m
    · have h2' : ¬ m < n := by omega
      have hb' : b = true := by rw [← hb]; simp [h1, h2]
      subst hb'
      clear hb
      go_enter Try.func45, Try.ntmps45
      go_wp2
      go_ret
      simp
    · have h2' : m < n := by omega
      have hb' : b = false := by rw [← hb]; simp [h2']
      subst hb'
      clear hb
      go_enter Try.func45, Try.ntmps45
      go_wp2
      go_ret
      simp
  · have h1' : n < 0 := by omega
    have hb' : b = false := by rw [← hb]; simp; omega
    subst hb'
    clear hb
    go_enter Try.func45, Try.ntmps45
    go_wp2
    go_ret
    simp

set_option maxHeartbeats 1000000 in
theorem sectors_at (w : World) (n : Nat) (hn : n ≤ 2621400) : Calls Try.prog 35 #[.int .i64 n] w fun e w' => e = .returned (.int .i64 (sectN n : Nat)) ∧ w = w' := by
  obtain ⟨d, hd⟩ : ∃ d, d = (n + 39) / 40 := ⟨_, rfl⟩
  have hd1 : ((n : Int) + 40 - 1) / 40 = d := by omega
  have hd2 : ((n : Int) + 40 - 1).tdiv 40 = d := by rw [Int.tdiv_eq_ediv_of_nonneg (by omega)]; exact hd1
  have hd3 : ((n : Int) + 39) / 40 = d := by omega
  have hd4 : ((n : Int) + 39).tdiv 40 = d := by rw [Int.tdiv_eq_ediv_of_nonneg (by omega)]; exact hd3
  have Hs : Hid (sectN n = max 1 d) := hide (by unfold sectN; rw [hd])
  have hdl : d ≤ 65535 := by omega
  have HW := hide (within_at w n 2621400 true (by simp; omega))
  clear hd
  obtain ⟨c, hc⟩ : ∃ c, c = sectN n := ⟨_, rfl⟩
  rw [← hc] at Hs ⊢
  clear hc
  go_enter Try.func35, Try.ntmps35
  go_wp2_with fail
  refine HW.out.mono ?_
  rintro e w1 ⟨rfl, rfl⟩
  by_cases h1 : 1 ≤ d
  · have h1' : ¬ (d : Int) < 1 := by omega
    go_wp2 <;> (go_ret; refine ⟨?_, rfl⟩; have := Hs.out; simp; omega)
  · have h1' : (d : Int) < 1 := by omega
    go_wp2 <;> (go_ret; refine ⟨?_, rfl⟩; have := Hs.out; simp; omega)

set_option maxRecDepth 100000 in
set_option maxHeartbeats 2000000 in
theorem rsect_at (w : World) (x : Rv) (h : RcAt w x) (B : List Nat) (hB : putRN x.rc = B) (hl : B.length ≤ 10000) (n : Nat) (hn : (if B.length = 0 then 0 else sectN B.length) = n) : Calls Try.prog 16 #[x.agg] w fun e w' => e = .returned (.int .i64 (n : Nat)) ∧ Kept (fun _ => False) w w' := by
  have HP : Hid (∀ w', Kept (fun _ => False) w w' → Calls Try.prog 15 #[x.agg] w' fun e w'' => ∃ t : Sl, e = .returned (.slice t.a t.n t.c) ∧ Src w'' t.v B ∧ Kept (fun _ => False) w' w'') := hide (fun w' hk => by rw [← hB]; exact put_at w' x (h.kept hk))
  obtain ⟨kd, tl, nm, ⟨xa, xn, xc⟩, l⟩ := x
  simp only [Rv.agg] at HP ⊢
  have HN := hide hn
  clear hn hB h
  go_enter Try.func16, Try.ntmps16
  go_wp2_with (first
    | ((with_reducible refine aw_box (t := 24) (v := rAgg kd tl nm ⟨xa, xn, xc⟩) rfl ?_); intro w1 hb1 hk1 hz1; have Hz1 := hide hz1; clear hz1)
    | ((with_reducible refine aw_load (t := 24) (M := [.int .i64 kd, .int .i64 tl, .int .i64 nm, .slice xa xn xc]) Try.agg24 rfl hb1 (by simp [Value.cells]) (by simp [Value.cells]) ?_))
    | fail)
  refine (HP.out w1 hk1).mono ?_
  rintro e w2 ⟨⟨ta, tn, tc⟩, rfl, hs2, hk2⟩
  have hk := hk1.trans hk2 (fun _ _ h => h)
  have htn : tn = B.length := by
    obtain ⟨_, _, e, _⟩ := hs2
    simp only [Sl.v, Value.slice.injEq] at e
    exact e.2.1
  rw [← htn] at HN hl
  clear hs2 hk2 hk1 hb1 htn HP
  by_cases h0 : tn = 0
  · subst h0
    obtain rfl : n = 0 := by rw [← HN.out]; rfl
    go_wp2
    go_ret
    exact ⟨rfl, hk⟩
  · have h0' : ¬ (tn : Int) = 0 := by omega
    have hn : n = sectN tn := by rw [← HN.out, if_neg h0]
    clear HN
    have Hn := hide hn
    clear hn
    go_wp2_with fail
    refine (sectors_at w2 tn (by omega)).mono ?_
    rintro e w3 ⟨rfl, rfl⟩
    go_wp2
    go_ret
    exact ⟨by rw [Hn.out]; rfl, hk⟩

/-- Whether a record is too great to be asked: whatever it answers, it answers. -/
theorem great_at (w : World) (x : Rv) (h : RcAt w x) : Calls Try.prog 8 #[x.agg] w fun e w' => (∃ b : Bool, e = .returned (.bool b)) ∧ Kept (fun _ => False) w w' := by
  obtain ⟨kd, tl, nm, ⟨xa, xn, xc⟩, l⟩ := x
  simp only [Rv.agg]
  have h' : WsAt w (.slice xa xn xc) l := h
  obtain rfl : xn = l.length := WsAt.len h'
  have hmax := h'.2.2
  have HW := hide h'
  clear h h'
  obtain ⟨i0, hi0, hz0, hs0, hb0⟩ := info_parts Try.info40
  have Hi0 := hide hi0
  have Hz0 := hide hz0
  clear hi0 hz0 hs0 hb0
  go_enter Try.func8, Try.ntmps8
  go_wp2_with ((with_reducible refine aw_box (t := 24) (v := rAgg kd tl nm ⟨xa, l.length, xc⟩) rfl ?_); intro w1 hb1 hk1 hz1; have c3 : w1.cell? ⟨w.heap.size, 3, none⟩ = some (.slice xa l.length xc) := hb1.cell 3; clear hz1)
  go_loopw [3, 9] (fun s i wr => ∃ (q : Int) (k : Nat), s = .int .i64 q ∧ i = .int .i64 k ∧ k ≤ l.length ∧ Kept (fun _ => False) w wr)
    (fun _ i _ => l.length - (intOf i).toNat)
  case atStart => exact ⟨0, 0, rfl, rfl, Nat.zero_le _, hk1⟩
  case round =>
    obtain ⟨q, k, rfl, rfl, hk, hkr⟩ := hrel
    clear c3
    by_cases hlt : k < l.length
    · obtain ⟨g, off, rfl, c0, c1, hsrc, hn⟩ := (HW.out.kept hkr).get hlt
      obtain ⟨x, hx⟩ : ∃ x, x = l[k] := ⟨_, rfl⟩
      rw [← hx] at c0 c1
      obtain ⟨bk, ⟨ya, yn, yc⟩, yB⟩ := x
      simp only at c0 c1
      clear hsrc hn hx
      go_wp2_with (first
        | ((with_reducible refine aw_alloc (t := 40) Hi0.out Hz0.out ?_); intro w2 hw2 hk2 hz2; have Hz2 := hide hz2; clear hz2 c0 c1)
        | ((with_reducible refine aw_store (M := [.int .i64 bk, .slice ya yn yc]) Try.agg40 rfl rfl rfl (by simp [Value.oneCell']) hw2 (by simp [Value.cells]) ?_); intro w3 hw3 hk3 hz3; rw [put_whole _ _ (by simp [Value.cells])] at hw3; have d1 : w3.cell? ⟨wr.heap.size, 1, none⟩ = some (.slice ya yn yc) := hw3.cell 1; have HK3 := hide (hk2.trans hk3 (fun i hi h => by omega)); clear hz3 hw2 hw3 hk2 hk3))
      go_roundw
      case rel => exact ⟨_, k + 1, rfl, by simp, by omega, hkr.trans HK3.out (fun _ _ h => h)⟩
      case measure => simp [intOf]; omega
    · obtain rfl : l.length = k := by omega
      go_wp2
      go_ret
      exact ⟨⟨_, rfl⟩, hkr⟩
end Go.Proofs.Ytcdlgaknpmlfeaa
