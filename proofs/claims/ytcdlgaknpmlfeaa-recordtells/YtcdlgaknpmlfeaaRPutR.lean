/-
  Put, Sectors, of package record; frame.Sectors.
-/
import Derived.Test.YtcdlgaknpmlfeaaRPut
namespace Go.Proofs.Ytcdlgaknpmlfeaa
open Go.RowKit Go.Shelf
set_option linter.unusedSimpArgs false
set_option linter.unusedVariables false

def putRN (r : Rc) : List Nat := if rightR r then putR r else []
theorem penNum_w (A : List Nat) (x : Int) (m : Nat) (h1 : 1 ≤ m) (h8 : m ≤ 8) (h0 : 0 ≤ x) (h : x.toNat < 256 ^ m) : penNum A x (m : Int) = A ++ numB x.toNat m := by
  have hf : fitsN x (m : Int) = true := by
    obtain ⟨n, rfl⟩ : ∃ n : Nat, x = n := ⟨x.toNat, by omega⟩
    rw [fits_eq h1 h8]
    simp only [decide_eq_true_eq]
    exact Nat.div_eq_of_lt (by simpa only [Int.toNat_natCast] using h)
  unfold penNum
  rw [if_pos hf]
  rfl
set_option maxRecDepth 100000 in
set_option maxHeartbeats 4000000 in
theorem putP_at (w : World) (kd tl nm : Int) (s : Sl) (l : List Wv) (h : WsAt w s.v l) :
    Calls Try.prog 15 #[rAgg kd tl nm s] w fun e w' => ∃ t : Sl, e = .returned (.slice t.a t.n t.c) ∧ Src w' t.v (putRN ⟨kd, tl, nm, l.map Wv.wr⟩) ∧ Kept (fun _ => False) w w' := by
  obtain ⟨xa, xn, xc⟩ := s
  obtain rfl : xn = l.length := WsAt.len h
  have HW := hide h
  obtain ⟨b, hb⟩ : ∃ b, rightR ⟨kd, tl, nm, l.map Wv.wr⟩ = b := ⟨_, rfl⟩
  have HR : Hid (∀ w', Kept (fun _ => False) w w' → Calls Try.prog 14 #[rAgg kd tl nm ⟨xa, l.length, xc⟩] w' fun e w'' => e = .returned (.bool b) ∧ Kept (fun _ => False) w' w'') := hide (fun w' hk => rightP_at w' kd tl nm ⟨xa, l.length, xc⟩ l (h.kept hk) b hb)
  have HB := hide hb
  obtain ⟨ip, hip, hzp, hsp, hbp⟩ := info_parts Try.info60
  have Hip := hide hip
  have Hzp := hide hzp
  clear h hb hip hzp hsp hbp
  cases b with
  | false =>
    have HN : Hid (putRN ⟨kd, tl, nm, l.map Wv.wr⟩ = []) := hide (by unfold putRN; rw [HB.out]; rfl)
    clear HB
    go_enter Try.func15, Try.ntmps15
    go_wp2_with (first
      | ((with_reducible refine aw_box (t := 24) (v := rAgg kd tl nm ⟨xa, l.length, xc⟩) rfl ?_); intro w1 hb1 hk1 hz1; have Hz1 := hide hz1; clear hz1)
      | ((with_reducible refine aw_load (t := 24) (M := [.int .i64 kd, .int .i64 tl, .int .i64 nm, .slice xa l.length xc]) Try.agg24 rfl hb1 (by simp [Value.cells]) (by simp [Value.cells]) ?_))
      | fail)
    refine (HR.out w1 hk1).mono ?_
    rintro e w2 ⟨rfl, hk2⟩
    go_wp2
    go_ret
    exact ⟨⟨none, 0, 0⟩, rfl, by rw [HN.out]; exact Src.nil _, hk1.trans hk2 (fun _ _ h => h)⟩
  | true =>
    by_cases h2 : kd = 2
    · subst h2
      have N1 : Hid (penNum [] 2 1 = [] ++ numB 2 1) := hide (by decide)
      have HN : Hid (putRN ⟨2, tl, nm, l.map Wv.wr⟩ = [] ++ numB 2 1) := hide (by unfold putRN; rw [HB.out]; simp [putR])
      clear HB
      go_enter Try.func15, Try.ntmps15
      go_wp2_with (first
        | ((with_reducible refine aw_box (t := 24) (v := rAgg 2 tl nm ⟨xa, l.length, xc⟩) rfl ?_); intro w1 hb1 hk1 hz1; have Hz1 := hide hz1; clear hz1)
        | ((with_reducible refine aw_load (t := 24) (M := [.int .i64 2, .int .i64 tl, .int .i64 nm, .slice xa l.length xc]) Try.agg24 rfl hb1 (by simp [Value.cells]) (by simp [Value.cells]) ?_))
        | fail)
      refine (HR.out w1 hk1).mono ?_
      rintro e w2 ⟨rfl, hk2⟩
      clear HR
      have hb2 := hk2.blk hb1 (fun h => h)
      clear hb1
      go_wp2_with (first
        | ((with_reducible refine aw_alloc (t := 60) Hip.out Hzp.out ?_); intro w3 hb3 hk3 hz3; have hb4 := hk3.blk hb2 (fun h => h); have c0 : w3.cell? ⟨w.heap.size, 0, none⟩ = some (.int .i64 2) := hb4.cell 0; clear hz3)
        | fail)
      have HPa : Hid (Pn w2 w3 w2.heap.size []) := hide ⟨Nat.le_refl _, hk3, _, pen_new hb3, fun k h => by simp [Value.ownBlock] at h⟩
      have HB2 := hide hb2
      have HKW := hide (hk1.trans hk2 (fun _ _ h => h))
      clear hb3 hk3 hb4 hb2
      refine (number_pn w2 w3 _ [] HPa.out (by simp) _ 1 (by omega)).mono ?_
      rintro e w4 ⟨rfl, hp4⟩
      rw [N1.out] at hp4
      have HP4 := hide hp4
      have c0' : w4.cell? ⟨w.heap.size, 0, none⟩ = some (.int .i64 2) := (HP4.out.base.blk HB2.out (fun h => h)).cell 0
      clear hp4 c0 N1 HPa
      go_wp2_with fail
      refine (bytes_pn w2 w4 _ _ HP4.out (by simp [numB_length])).mono ?_
      rintro e w8 ⟨t, rfl, hs8, hk8⟩
      obtain ⟨ta, tn, tc, rfl⟩ : ∃ a n c, t = .slice a n c := by
        obtain ⟨a, c, e, _⟩ := hs8
        exact ⟨a, _, c, e⟩
      have HS8 := hide hs8
      have HK8 := hide hk8
      clear hs8 hk8
      go_wp2
      go_ret
      exact ⟨⟨ta, tn, tc⟩, rfl, by rw [HN.out]; exact HS8.out, HKW.out.trans (HP4.out.base.trans HK8.out (fun _ _ h => h)) (fun _ _ h => h)⟩
    · have ht : 1 ≤ tl ∧ tl ≤ 2147483647 ∧ 0 ≤ nm ∧ nm ≤ 1099511627776 := by
        have h := HB.out
        unfold rightR at h
        simp only at h
        rw [if_neg h2] at h
        split at h
        · simp only [Bool.and_eq_true, tnOk, decide_eq_true_eq] at h; exact h.1
        · split at h
          · simp only [Bool.and_eq_true, tnOk, decide_eq_true_eq] at h; exact h.1.1
          · cases h
      obtain ⟨t1, t2, t3, t4⟩ := ht
      by_cases h1 : kd = 1
      · subst h1
        have N1 : Hid (penNum [] 1 1 = [] ++ numB 1 1) := hide (by decide)
        have N4 : Hid (penNum ([] ++ numB 1 1) tl 4 = [] ++ numB 1 1 ++ numB tl.toNat 4) := hide (penNum_w _ tl 4 (by decide) (by decide) (by omega) (by omega))
        have N8 : Hid (penNum ([] ++ numB 1 1 ++ numB tl.toNat 4) nm 8 = [] ++ numB 1 1 ++ numB tl.toNat 4 ++ numB nm.toNat 8) := hide (penNum_w _ nm 8 (by decide) (by decide) (by omega) (by omega))
        have HN : Hid (putRN ⟨1, tl, nm, l.map Wv.wr⟩ = [] ++ numB 1 1 ++ numB tl.toNat 4 ++ numB nm.toNat 8) := hide (by unfold putRN; rw [HB.out]; simp [putR])
        clear HB h2
        go_enter Try.func15, Try.ntmps15
        go_wp2_with (first
          | ((with_reducible refine aw_box (t := 24) (v := rAgg 1 tl nm ⟨xa, l.length, xc⟩) rfl ?_); intro w1 hb1 hk1 hz1; have Hz1 := hide hz1; clear hz1)
          | ((with_reducible refine aw_load (t := 24) (M := [.int .i64 1, .int .i64 tl, .int .i64 nm, .slice xa l.length xc]) Try.agg24 rfl hb1 (by simp [Value.cells]) (by simp [Value.cells]) ?_))
          | fail)
        refine (HR.out w1 hk1).mono ?_
        rintro e w2 ⟨rfl, hk2⟩
        clear HR
        have hb2 := hk2.blk hb1 (fun h => h)
        clear hb1
        go_wp2_with (first
          | ((with_reducible refine aw_alloc (t := 60) Hip.out Hzp.out ?_); intro w3 hb3 hk3 hz3; have hb4 := hk3.blk hb2 (fun h => h); have c0 : w3.cell? ⟨w.heap.size, 0, none⟩ = some (.int .i64 1) := hb4.cell 0; clear hz3)
          | fail)
        have HPa : Hid (Pn w2 w3 w2.heap.size []) := hide ⟨Nat.le_refl _, hk3, _, pen_new hb3, fun k h => by simp [Value.ownBlock] at h⟩
        have HB2 := hide hb2
        have HKW := hide (hk1.trans hk2 (fun _ _ h => h))
        clear hb3 hk3 hb4 hb2
        refine (number_pn w2 w3 _ [] HPa.out (by simp) _ 1 (by omega)).mono ?_
        rintro e w4 ⟨rfl, hp4⟩
        rw [N1.out] at hp4
        have HP4 := hide hp4
        have c0' : w4.cell? ⟨w.heap.size, 0, none⟩ = some (.int .i64 1) := (HP4.out.base.blk HB2.out (fun h => h)).cell 0
        clear hp4 c0 N1 HPa
        have c1 : w4.cell? ⟨w.heap.size, 1, none⟩ = some (.int .i64 tl) := (HP4.out.base.blk HB2.out (fun h => h)).cell 1
        go_wp2_with fail
        refine (number_pn w2 w4 _ _ HP4.out (by simp [numB_length]) _ 4 (by omega)).mono ?_
        rintro e w5 ⟨rfl, hp5⟩
        rw [N4.out] at hp5
        have HP5 := hide hp5
        have c2 : w5.cell? ⟨w.heap.size, 2, none⟩ = some (.int .i64 nm) := (HP5.out.base.blk HB2.out (fun h => h)).cell 2
        clear hp5 c0' c1 N4 HP4
        go_wp2_with fail
        refine (number_pn w2 w5 _ _ HP5.out (by simp [numB_length]) _ 8 (by omega)).mono ?_
        rintro e w6 ⟨rfl, hp6⟩
        rw [N8.out] at hp6
        have HP6 := hide hp6
        have c0 : w6.cell? ⟨w.heap.size, 0, none⟩ = some (.int .i64 1) := (HP6.out.base.blk HB2.out (fun h => h)).cell 0
        clear hp6 c2 N8 HP5
        go_wp2_with fail
        refine (bytes_pn w2 w6 _ _ HP6.out (by simp [numB_length])).mono ?_
        rintro e w8 ⟨t, rfl, hs8, hk8⟩
        obtain ⟨ta, tn, tc, rfl⟩ : ∃ a n c, t = .slice a n c := by
          obtain ⟨a, c, e, _⟩ := hs8
          exact ⟨a, _, c, e⟩
        have HS8 := hide hs8
        have HK8 := hide hk8
        clear hs8 hk8
        go_wp2
        go_ret
        exact ⟨⟨ta, tn, tc⟩, rfl, by rw [HN.out]; exact HS8.out, HKW.out.trans (HP6.out.base.trans HK8.out (fun _ _ h => h)) (fun _ _ h => h)⟩
      · obtain rfl : kd = 3 := by
          rcases Classical.em (kd = 3) with h | h
          · exact h
          · have hh := HB.out
            simp [rightR, h1, h2, h] at hh
        have HG : Hid (goodFrom (-1) (l.map Wv.wr) = true) := hide (by
          have h := HB.out
          simp [rightR] at h
          exact h.2)
        have N1 : Hid (penNum [] 3 1 = [] ++ numB 3 1) := hide (by decide)
        have N4 : Hid (penNum ([] ++ numB 3 1) tl 4 = [] ++ numB 3 1 ++ numB tl.toNat 4) := hide (penNum_w _ tl 4 (by decide) (by decide) (by omega) (by omega))
        have N8 : Hid (penNum ([] ++ numB 3 1 ++ numB tl.toNat 4) nm 8 = [] ++ numB 3 1 ++ numB tl.toNat 4 ++ numB nm.toNat 8) := hide (penNum_w _ nm 8 (by decide) (by decide) (by omega) (by omega))
        have HN : Hid (putRN ⟨3, tl, nm, l.map Wv.wr⟩ = [] ++ numB 3 1 ++ numB tl.toNat 4 ++ numB nm.toNat 8 ++ (numB l.length 2 ++ encWs (l.map Wv.wr))) := hide (by unfold putRN; rw [HB.out]; simp [putR])
        have HLE : Hid (([] ++ numB 3 1 ++ numB tl.toNat 4 ++ numB nm.toNat 8 ++ (numB l.length 2 ++ encWs (l.map Wv.wr))).length ≤ 90000000) := hide (by
          have h1 := goodFrom_len (l := l.map Wv.wr) (lo := -1) (by decide) (by decide) HG.out
          have h2 := encWs_length (l := l.map Wv.wr) (fun x hx => (goodFrom_mem HG.out x hx).2.2.2)
          rw [List.length_map] at h1 h2
          simp only [List.length_append, numB_length, h2, List.length_nil]
          omega)
        clear HB h1 h2
        go_enter Try.func15, Try.ntmps15
        go_wp2_with (first
          | ((with_reducible refine aw_box (t := 24) (v := rAgg 3 tl nm ⟨xa, l.length, xc⟩) rfl ?_); intro w1 hb1 hk1 hz1; have Hz1 := hide hz1; clear hz1)
          | ((with_reducible refine aw_load (t := 24) (M := [.int .i64 3, .int .i64 tl, .int .i64 nm, .slice xa l.length xc]) Try.agg24 rfl hb1 (by simp [Value.cells]) (by simp [Value.cells]) ?_))
          | fail)
        refine (HR.out w1 hk1).mono ?_
        rintro e w2 ⟨rfl, hk2⟩
        clear HR
        have hb2 := hk2.blk hb1 (fun h => h)
        clear hb1
        go_wp2_with (first
          | ((with_reducible refine aw_alloc (t := 60) Hip.out Hzp.out ?_); intro w3 hb3 hk3 hz3; have hb4 := hk3.blk hb2 (fun h => h); have c0 : w3.cell? ⟨w.heap.size, 0, none⟩ = some (.int .i64 3) := hb4.cell 0; clear hz3)
          | fail)
        have HPa : Hid (Pn w2 w3 w2.heap.size []) := hide ⟨Nat.le_refl _, hk3, _, pen_new hb3, fun k h => by simp [Value.ownBlock] at h⟩
        have HB2 := hide hb2
        have HKW := hide (hk1.trans hk2 (fun _ _ h => h))
        clear hb3 hk3 hb4 hb2
        refine (number_pn w2 w3 _ [] HPa.out (by simp) _ 1 (by omega)).mono ?_
        rintro e w4 ⟨rfl, hp4⟩
        rw [N1.out] at hp4
        have HP4 := hide hp4
        have c0' : w4.cell? ⟨w.heap.size, 0, none⟩ = some (.int .i64 3) := (HP4.out.base.blk HB2.out (fun h => h)).cell 0
        clear hp4 c0 N1 HPa
        have c1 : w4.cell? ⟨w.heap.size, 1, none⟩ = some (.int .i64 tl) := (HP4.out.base.blk HB2.out (fun h => h)).cell 1
        go_wp2_with fail
        refine (number_pn w2 w4 _ _ HP4.out (by simp [numB_length]) _ 4 (by omega)).mono ?_
        rintro e w5 ⟨rfl, hp5⟩
        rw [N4.out] at hp5
        have HP5 := hide hp5
        have c2 : w5.cell? ⟨w.heap.size, 2, none⟩ = some (.int .i64 nm) := (HP5.out.base.blk HB2.out (fun h => h)).cell 2
        clear hp5 c0' c1 N4 HP4
        go_wp2_with fail
        refine (number_pn w2 w5 _ _ HP5.out (by simp [numB_length]) _ 8 (by omega)).mono ?_
        rintro e w6 ⟨rfl, hp6⟩
        rw [N8.out] at hp6
        have HP6 := hide hp6
        have c0 : w6.cell? ⟨w.heap.size, 0, none⟩ = some (.int .i64 3) := (HP6.out.base.blk HB2.out (fun h => h)).cell 0
        clear hp6 c2 N8 HP5
        have c3 : w6.cell? ⟨w.heap.size, 3, none⟩ = some (.slice xa l.length xc) := (HP6.out.base.blk HB2.out (fun h => h)).cell 3
        go_wp2_with fail
        refine (putWrites_at w2 w6 _ _ _ l HP6.out (by simp [numB_length]) (HW.out.kept HKW.out) HG.out).mono ?_
        rintro e w7 ⟨⟨u, rfl⟩, hp7⟩
        have HP7 := hide hp7
        clear hp7 c0 c3 HP6
        go_wp2_with fail
        refine (bytes_pn w2 w7 _ _ HP7.out HLE.out).mono ?_
        rintro e w8 ⟨t, rfl, hs8, hk8⟩
        obtain ⟨ta, tn, tc, rfl⟩ : ∃ a n c, t = .slice a n c := by
          obtain ⟨a, c, e, _⟩ := hs8
          exact ⟨a, _, c, e⟩
        have HS8 := hide hs8
        have HK8 := hide hk8
        clear hs8 hk8
        go_wp2
        go_ret
        exact ⟨⟨ta, tn, tc⟩, rfl, by rw [HN.out]; exact HS8.out, HKW.out.trans (HP7.out.base.trans HK8.out (fun _ _ h => h)) (fun _ _ h => h)⟩
theorem put_at (w : World) (x : Rv) (h : RcAt w x) : Calls Try.prog 15 #[x.agg] w fun e w' => ∃ t : Sl, e = .returned (.slice t.a t.n t.c) ∧ Src w' t.v (putRN x.rc) ∧ Kept (fun _ => False) w w' :=
  putP_at w x.kd x.tl x.nm x.s x.ws h
end Go.Proofs.Ytcdlgaknpmlfeaa
