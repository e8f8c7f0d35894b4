/-
  The reference's scan: Text, Noughts.
-/
import Derived.Test.YtjkggmjcaedggaaPRefS
namespace Go.Proofs.Ytjkggmjcaedggaa
open Go.RowKit Go.Shelf
set_option linter.unusedSimpArgs false
set_option linter.unusedVariables false

set_option maxHeartbeats 4000000 in
theorem reftext_at (w : World) (x : Nat) (B : List Nat) (hB : ∀ y ∈ B, y < 256) (E : Int) (h : RefAt w x B E) (hl : B.length ≤ 1000000) (m : Int) :
    Calls Try.prog 27 #[.pointer (some ⟨x, 0, none⟩), .int .i64 m] w fun e w' => e = .returned (.string (strN (scanText B E m).1)) ∧ RefAt w' x (scanText B E m).2.1 (scanText B E m).2.2 ∧ Kept (fun k => k = x) w w' := by
  have HN := hide (refnum_at w x B hB E h hl 2 (by decide))
  have c0 : w.cell? ⟨x, 0, none⟩ = some (.string (strN B)) := Blk.cell h 0
  have HB := hide hB
  clear h hB
  by_cases hE : E = 0
  · subst hE
    cases hfn : firstN B 2 with
    | none =>
      rw [sN_none hfn] at HN
      rw [sT_none hfn]
      simp only at HN
      generalize strN B = sB at *
      go_enter Try.func27, Try.ntmps27
      go_wp2_with fail
      refine HN.out.mono ?_
      rintro e w1 ⟨rfl, h1, hk1⟩
      have d1 : w1.cell? ⟨x, 1, none⟩ = some (.int .i64 20) := Blk.cell h1 1
      have H1 := hide h1
      clear h1 c0 hfn
      go_wp2
      go_ret
      exact ⟨rfl, H1.out, hk1⟩
    | some n =>
      rw [sN_some hfn] at HN
      simp only [show (2 : Int).toNat = 2 from rfl] at HN
      obtain ⟨hq1, hq2, hml, hnv, hn⟩ := firstN_some hfn
      clear hnv hq1 hq2
      have hsz : (strN (B.drop 2)).size = B.length - 2 := by rw [strN_size]; simp
      obtain ⟨r, hr⟩ : ∃ r, B.length - 2 = r := ⟨_, rfl⟩
      rw [hr] at hsz
      by_cases hm : (n : Int) ≤ m
      · by_cases hL : n + 2 ≤ B.length
        · rw [sT_some hfn ⟨hm, hL⟩, ← List.drop_drop]
          have hm' : ¬ (n : Int) > m := by omega
          have hL' : ¬ (n : Int) > (r : Int) := by omega
          have hnl : n ≤ (B.drop 2).length := by simp; omega
          have hTT : (strN ((B.drop 2).take n)) = strN ((B.drop 2).take n) := rfl
          generalize B.drop 2 = C at *
          clear hfn hr hTT
          go_enter Try.func27, Try.ntmps27
          go_wp2_with fail
          refine HN.out.mono ?_
          rintro e w1 ⟨rfl, h1, hk1⟩
          have d0 : w1.cell? ⟨x, 0, none⟩ = some (.string (strN C)) := Blk.cell h1 0
          have d1 : w1.cell? ⟨x, 1, none⟩ = some (.int .i64 0) := Blk.cell h1 1
          have g0 := Blk.frozen h1 0
          obtain ⟨hg1, hg2⟩ := h1.go (C := C.drop n)
          have HG1 := hide hg1
          have HG2 := hide (hk1.trans hg2 (fun _ _ h => h))
          clear h1 c0 hg1 hg2 hk1
          go_wp2_with (with_reducible refine stop_slice 9 ?_)
          refine hide ?_
          refine wpList_run rfl (r_hi9 (B := C) n hnl rfl rfl) ?_
          obtain ⟨s1, hs1⟩ : ∃ s, strN (C.take n) = s := ⟨_, rfl⟩
          rw [hs1]
          have HS1 := hide hs1
          clear hs1
          go_wp2_with (with_reducible refine stop_slice 9 ?_)
          refine hide ?_
          refine wpList_run rfl (r_lo9 (B := C) n hnl rfl rfl) ?_
          generalize strN (C.drop n) = s2 at *
          go_wp2
          go_ret
          exact ⟨by rw [HS1.out]; rfl, HG1.out, HG2.out⟩
        · rw [sT_no hfn (fun h => hL h.2)]
          have hm' : ¬ (n : Int) > m := by omega
          have hL' : (n : Int) > (r : Int) := by omega
          generalize B.drop 2 = C at *
          clear hfn hr
          go_enter Try.func27, Try.ntmps27
          go_wp2_with fail
          refine HN.out.mono ?_
          rintro e w1 ⟨rfl, h1, hk1⟩
          have d0 : w1.cell? ⟨x, 0, none⟩ = some (.string (strN C)) := Blk.cell h1 0
          have d1 : w1.cell? ⟨x, 1, none⟩ = some (.int .i64 0) := Blk.cell h1 1
          have g0 := Blk.frozen h1 0
          obtain ⟨hg1, hg2⟩ := h1.go (C := B)
          have e1 : (w1.setCell ⟨x, 0, none⟩ (.string (strN B))).cell? ⟨x, 1, none⟩ = some (.int .i64 0) := Blk.cell hg1 1
          have e2 := Blk.frozen hg1 1
          obtain ⟨hj1, hj2⟩ := hg1.fail
          have HG1 := hide hj1
          have HG2 := hide ((hk1.trans hg2 (fun _ _ h => h)).trans hj2 (fun _ _ h => h))
          clear h1 c0 hg1 hg2 hk1 hj1 hj2
          generalize strN B = sB at *
          go_wp2
          go_ret
          exact ⟨rfl, HG1.out, HG2.out⟩
      · rw [sT_no hfn (fun h => hm h.1)]
        have hm' : (n : Int) > m := by omega
        generalize B.drop 2 = C at *
        clear hfn hr
        go_enter Try.func27, Try.ntmps27
        go_wp2_with fail
        refine HN.out.mono ?_
        rintro e w1 ⟨rfl, h1, hk1⟩
        have d0 : w1.cell? ⟨x, 0, none⟩ = some (.string (strN C)) := Blk.cell h1 0
        have d1 : w1.cell? ⟨x, 1, none⟩ = some (.int .i64 0) := Blk.cell h1 1
        have g0 := Blk.frozen h1 0
        obtain ⟨hg1, hg2⟩ := h1.go (C := B)
        have e1 : (w1.setCell ⟨x, 0, none⟩ (.string (strN B))).cell? ⟨x, 1, none⟩ = some (.int .i64 0) := Blk.cell hg1 1
        have e2 := Blk.frozen hg1 1
        obtain ⟨hj1, hj2⟩ := hg1.fail
        have HG1 := hide hj1
        have HG2 := hide ((hk1.trans hg2 (fun _ _ h => h)).trans hj2 (fun _ _ h => h))
        clear h1 c0 hg1 hg2 hk1 hj1 hj2
        generalize strN B = sB at *
        go_wp2
        go_ret
        exact ⟨rfl, HG1.out, HG2.out⟩
  · rw [scanNum_err 2 hE] at HN
    rw [sT_err m hE]
    simp only at HN
    generalize strN B = sB at *
    go_enter Try.func27, Try.ntmps27
    go_wp2_with fail
    refine HN.out.mono ?_
    rintro e w1 ⟨rfl, h1, hk1⟩
    have d1 : w1.cell? ⟨x, 1, none⟩ = some (.int .i64 E) := Blk.cell h1 1
    have H1 := hide h1
    clear h1 c0
    go_wp2
    go_ret
    exact ⟨rfl, H1.out, hk1⟩

theorem nN_end {B : List Nat} (h : ∀ j (hj : j < B.length), B[j] = 0) (E : Int) : noughtsN B E = decide (E = 0) := by
  have h0 := nN_all h
  unfold noughtsN at h0 ⊢
  simp only [decide_true, Bool.true_and] at h0
  rw [h0, Bool.and_true]
end Go.Proofs.Ytjkggmjcaedggaa
