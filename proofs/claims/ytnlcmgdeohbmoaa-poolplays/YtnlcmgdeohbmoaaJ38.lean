/-
  The document's pool: Drop, New.
-/
import Derived.Test.YtnlcmgdeohbmoaaJ37
namespace Go.Proofs.Ytnlcmgdeohbmoaa
open Go.RowKit Go.Shelf
set_option linter.unusedSimpArgs false
set_option linter.unusedVariables false
set_option maxRecDepth 100000

theorem Try.info34 : (Try.prog.info? 34).map (fun i => (i.zero, i.size, i.bytes)) = some (some (.slice none 0 0), 1, 24) := by kernel_rfl
theorem Try.info35 : (Try.prog.info? 35).map (fun i => (i.zero, i.size, i.bytes)) = some (some (.slice none 0 0), 1, 24) := by kernel_rfl
def noH (n : Nat) : List (List Nat) := List.replicate n []
def noT (n : Nat) : List Bool := List.replicate n false
theorem HV_no (n : Nat) : HV (noH n) = List.replicate n (.string ⟨#[]⟩) := by
  unfold HV noH
  rw [List.map_replicate]
  rfl
theorem TV_no (n : Nat) : TV (noT n) = List.replicate n (.bool false) := by
  unfold TV noT
  rw [List.map_replicate]
theorem RowB.new {w : World} {g n N : Nat} {vs : List Value} {t : TypeId} (h : Blk w g vs t) (hl : vs.length = n) (hn : n ≤ 64) (hN : N ≤ g) : RowB w (.slice (some ⟨g, 0, none⟩) n n) n vs t N :=
  ⟨g, n, [], rfl, by rw [List.append_nil]; exact h, Nat.le_refl _, by unfold maxLen; omega, by simp, hl, hN⟩
theorem zero37 : (Value.agg #[.string ⟨#[]⟩, .slice none 0 0, .int .i64 0, .int .i64 0, .bool false, .int .i64 0, .slice none 0 0, .slice none 0 0]).cells.toList.length = 8 := rfl
set_option maxHeartbeats 4000000 in
theorem rpdrop_at (w : World) (N nd : Nat) (s : D.DS) (rv : Value) (fr n : Nat) (hv dv : Value) (H : List (List Nat)) (T : List Bool) (h : RfP w N nd s rv fr n hv dv H T) (hN : N ≤ w.heap.size) :
    Calls Try.prog 20 #[refP s rv fr hv dv] w fun e w' => ∃ hv' dv', e = .returned (refP s rv fr hv' dv') ∧ RfP w' N nd s rv fr n hv' dv' (noH n) (noT n) ∧ Kept (fun _ => False) w w' := by
  have hn := h.n64
  have HH := hide h
  obtain ⟨ro, rc, rfl⟩ := h.wt.slice
  obtain ⟨hg, hcap, rfl, -⟩ := h.hh.cell
  obtain ⟨dg, dcap, rfl, -⟩ := h.hd.cell
  have Hn := hide hn
  obtain ⟨i0, hi0, hz0, hs0, hb0⟩ := info_parts Try.info37
  have Hi0 := hide hi0
  have Hz0 := hide hz0
  obtain ⟨i9, hi9, hz9, hs9, hb9⟩ := info_parts Try.info9
  have Hi9 := hide hi9
  have Hz9 := hide hz9
  have Hs9 := hide hs9
  have Hb9 := hide hb9
  obtain ⟨i4, hi4, hz4, hs4, hb4⟩ := info_parts Try.info4
  have Hi4 := hide hi4
  have Hz4 := hide hz4
  have Hs4 := hide hs4
  have Hb4 := hide hb4
  obtain ⟨i34, hi34, hz34, hs34, hb34⟩ := info_parts Try.info34
  have Hi34 := hide hi34
  have Hs34 := hide hs34
  obtain ⟨i35, hi35, hz35, hs35, hb35⟩ := info_parts Try.info35
  have Hi35 := hide hi35
  have Hs35 := hide hs35
  clear h hi0 hz0 hs0 hb0 hi9 hz9 hs9 hb9 hi4 hz4 hs4 hb4 hi34 hz34 hs34 hb34 hi35 hz35 hs35 hb35
  obtain ⟨v, hv⟩ : ∃ v, v = refP s (.slice ro s.ws.length rc) fr (.slice (some ⟨hg, 0, none⟩) n hcap) (.slice (some ⟨dg, 0, none⟩) n dcap) := ⟨_, rfl⟩
  have Hv := hide hv
  rw [← hv]
  clear hv
  go_enter Try.func20, Try.ntmps20
  go_wp2_with (first
    | ((with_reducible refine aw_box (t := 37) rfl ?_); intro w1 hw1 hk1 hz1; have HK1 := hide hk1; have HZ1 := hide hz1; rw [Hv.out] at hw1; have HW1 : Hid (Blk w1 w.heap.size (refPL s (.slice ro s.ws.length rc) fr (.slice (some ⟨hg, 0, none⟩) n hcap) (.slice (some ⟨dg, 0, none⟩) n dcap)) 37) := hide hw1; clear hw1 hk1 hz1)
    | ((with_reducible refine aw_alloc (t := 37) (dst := some 2) Hi0.out Hz0.out ?_); intro w2 hw2 hk2 hz2; have HK2 := hide hk2; have HZ2 := hide hz2; have HR2 := hide hw2; have HW2 := hide (hk2.blk HW1.out (fun h => h)); have c6 : w2.cell? ⟨w.heap.size, 6, none⟩ = some (.slice (some ⟨hg, 0, none⟩) n hcap) := HW2.out.cell 6; clear hw2 hk2 hz2)
    | ((with_reducible refine aw_make (n := n) 1 (by decide) Try.underlying34 Hi9.out Hz9.out rfl Hs9.out rfl rfl (by rw [Hb9.out]; have := Hn.out; omega) (by have := Hn.out; unfold maxLen; omega) ?_); intro w3 hw3 hk3 hz3; have HW3 := hide hw3; have HK3 := hide hk3; clear hw3 hk3 hz3 c6)
    | (with_reducible refine stop_store 34 ?_))
  refine hide ?_
  refine aw_store1 (v := .slice (some ⟨w2.heap.size, 0, none⟩) n n) Hi34.out Hs34.out rfl rfl rfl rfl (HK3.out.blk HW2.out (fun h => h)) (by rw [refPL_len]; decide) ?_
  intro w4 hw4 hk4 hz4
  have HW4 : Hid (Blk w4 w.heap.size (refPL s (.slice ro s.ws.length rc) fr (.slice (some ⟨w2.heap.size, 0, none⟩) n n) (.slice (some ⟨dg, 0, none⟩) n dcap)) 37) := hide hw4
  have HK4 := hide hk4
  have c6 : w4.cell? ⟨w.heap.size, 6, none⟩ = some (.slice (some ⟨w2.heap.size, 0, none⟩) n n) := HW4.out.cell 6
  clear hw4 hk4 hz4
  try simp only [put_lit, put_none, List.set_cons_succ, List.set_cons_zero]
  go_wp2_with (first
    | ((with_reducible refine aw_make (n := n) 1 (by decide) Try.underlying35 Hi4.out Hz4.out rfl Hs4.out rfl rfl (by rw [Hb4.out]; have := Hn.out; omega) (by have := Hn.out; unfold maxLen; omega) ?_); intro w5 hw5 hk5 hz5; have HW5 := hide hw5; have HK5 := hide hk5; clear hw5 hk5 hz5 c6)
    | (with_reducible refine stop_store 35 ?_))
  refine hide ?_
  refine aw_store1 (v := .slice (some ⟨w4.heap.size, 0, none⟩) n n) Hi35.out Hs35.out rfl rfl rfl rfl (HK5.out.blk HW4.out (fun h => h)) (by rw [refPL_len]; decide) ?_
  intro w6 hw6 hk6 hz6
  obtain ⟨PL6, hPL6⟩ : ∃ L, L = refPL s (.slice ro s.ws.length rc) fr (.slice (some ⟨w2.heap.size, 0, none⟩) n n) (.slice (some ⟨w4.heap.size, 0, none⟩) n n) := ⟨_, rfl⟩
  have HW6 : Hid (Blk w6 w.heap.size PL6 37) := hide (by rw [hPL6]; exact hw6)
  have HPe := hide hPL6
  have HPl : Hid (PL6.length = 8) := hide (by rw [hPL6]; rfl)
  have HPt : Hid ((PL6.drop 0).take 8 = PL6) := hide (by rw [hPL6]; rfl)
  have HP1 : Hid (∀ v ∈ PL6, v.oneCell' = true) := hide (by rw [hPL6]; exact refPL_one)
  have HK6 := hide hk6
  clear hw6 hk6 hz6 hPL6
  try simp only [put_lit, put_none, List.set_cons_succ, List.set_cons_zero]
  have s1 := HK1.out.size
  have HR6 := hide (HK6.out.blk (HK5.out.blk (HK4.out.blk (HK3.out.blk HR2.out (fun h => h)) (fun e => by have := HZ1.out; omega)) (fun h => h)) (fun e => by have := HZ1.out; omega))
  clear s1
  go_wp2_with (first | (with_reducible refine stop_load 37 ?_) | fail)
  refine hide ?_
  refine aw_load (M := PL6) Try.agg37 rfl HW6.out (by rw [HPl.out]; decide) HPt.out ?_
  try simp only [put_lit, put_none, List.set_cons_succ, List.set_cons_zero]
  go_wp2_with (first | (with_reducible refine stop_store 37 ?_) | fail)
  refine hide ?_
  refine aw_store (M := PL6) Try.agg37 rfl rfl HPl.out HP1.out HR6.out (by rw [zero37]; decide) ?_
  intro w7 hw7 hk7 hz7
  rw [put_whole _ _ (by rw [HPl.out, zero37])] at hw7
  try simp only [put_lit, put_none, List.set_cons_succ, List.set_cons_zero]
  go_wp2
  have k14 : Kept (fun _ => False) w w4 := ((HK1.out.trans HK2.out (fun _ _ h => h)).trans HK3.out (fun _ _ h => h)).trans HK4.out (fun i hi e => by omega)
  have k16 : Kept (fun _ => False) w w6 := (k14.trans HK5.out (fun _ _ h => h)).trans HK6.out (fun i hi e => by omega)
  have k17 : Kept (fun _ => False) w w7 := k16.trans hk7 (fun i hi e => by have := HZ1.out; omega)
  have hw2s := HZ2.out
  have hw1s := HZ1.out
  have q3 : Blk w7 w2.heap.size (HV (noH n)) 9 := by
    have h3 := HW3.out
    rw [Nat.mul_one] at h3
    rw [HV_no]
    exact hk7.blk (HK6.out.blk (HK5.out.blk (HK4.out.blk h3 (fun e => by omega)) (fun h => h)) (fun e => by omega)) (fun e => by omega)
  have q5 : Blk w7 w4.heap.size (TV (noT n)) 4 := by
    have h5 := HW5.out
    rw [Nat.mul_one] at h5
    rw [TV_no]
    have := k14.size
    exact hk7.blk (HK6.out.blk h5 (fun e => by have := HK4.out.size; have := HK3.out.size; omega)) (fun e => by have := HK4.out.size; have := HK3.out.size; omega)
  refine bodyPost_ret (D.results_cell (t := 2) (ty := 37) rfl Try.agg37 rfl hw7 HPl.out) rfl ⟨_, _, by rw [HPe.out]; rfl, ?_, k17⟩
  have hr := HH.out
  exact { dok := hr.dok, wt := hr.wt.kept k17, hh := RowB.new q3 (by rw [HV_length]; simp [noH]) Hn.out.2 (by omega), hd := RowB.new q5 (by rw [TV_length]; simp [noT]) Hn.out.2 (by have := k14.size; omega), fit := hr.fit, n64 := hr.n64 }
end Go.Proofs.Ytnlcmgdeohbmoaa

/-
  The document's pool: built.
-/
namespace Go.Proofs.Ytnlcmgdeohbmoaa
open Go.RowKit Go.Shelf
set_option linter.unusedSimpArgs false
set_option linter.unusedVariables false
set_option maxRecDepth 100000

theorem built37 (st : ByteArray) (ro : Option Addr) (rl rc : Nat) (c l f : Int) (o : Bool) (ho : Option Addr) (hl hc : Nat) (to : Option Addr) (tl tc : Nat) :
    Try.prog.built 37 [(0, .agg #[.string st, .slice ro rl rc, .int .i64 c, .int .i64 l, .bool o]), (1, .int .i64 f), (2, .slice ho hl hc), (3, .slice to tl tc)] = some #[.string st, .slice ro rl rc, .int .i64 c, .int .i64 l, .bool o, .int .i64 f, .slice ho hl hc, .slice to tl tc] := by kernel_rfl
theorem built37_0 : Try.prog.built 37 [] = some #[.string ⟨#[]⟩, .slice none 0 0, .int .i64 0, .int .i64 0, .bool false, .int .i64 0, .slice none 0 0, .slice none 0 0] := by kernel_rfl
end Go.Proofs.Ytnlcmgdeohbmoaa
