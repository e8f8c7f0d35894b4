/-
  Same, of the reference.
-/
import Derived.Test.YtjkggmjcaedggaaFrGat
namespace Go.Proofs.Ytjkggmjcaedggaa
open Go.RowKit Go.Shelf
set_option linter.unusedSimpArgs false
set_option linter.unusedVariables false

def sameN (f g : Fr) : Bool := decide (f.lsn = g.lsn ∧ f.ep = g.ep ∧ f.ix = g.ix ∧ f.ct = g.ct ∧ f.B = g.B)
theorem sameN_self (f : Fr) : sameN f f = true := by simp [sameN]
theorem sameN_eq {f g : Fr} (h : sameN f g = true) : f = g := by
  simp [sameN] at h
  cases f; cases g
  simp_all
set_option maxRecDepth 100000 in
set_option maxHeartbeats 4000000 in
theorem sameP_at (w : World) (l e i c : Int) (v : Value) (A : List Nat) (l' e' i' c' : Int) (v' : Value) (A' : List Nat) (hA : Src w v A) (hA' : Src w v' A') (b : Bool) (hb : decide (l = l' ∧ e = e' ∧ i = i' ∧ c = c' ∧ A = A') = b) :
    Calls Try.prog 13 #[.agg #[.int .i64 l, .int .i64 e, .int .i64 i, .int .i64 c, v], .agg #[.int .i64 l', .int .i64 e', .int .i64 i', .int .i64 c', v']] w fun e w' => e = .returned (.bool b) ∧ Kept (fun _ => False) w w' := by
  have Hb := hide hb
  have HA := hide hA
  have HA' := hide hA'
  have HL := hide hA.lt
  have HL' := hide hA'.lt
  clear hb hA hA'
  by_cases h1 : l = l'
  · have h1b : (l == l') = true := by simp; omega
    have H1 := hide h1
    clear h1
    by_cases h2 : e = e'
    · have h2b : (e == e') = true := by simp; omega
      have H2 := hide h2
      clear h2
      by_cases h3 : i = i'
      · have h3b : (i == i') = true := by simp; omega
        have H3 := hide h3
        clear h3
        by_cases h4 : c = c'
        · have h4b : (c == c') = true := by simp; omega
          have H4 := hide h4
          clear h4
          by_cases h5 : A = A'
          · have h5b : decide (strN A = strN A') = true := by rw [h5]; simp
            have H5 := hide h5
            clear h5
            go_enter Try.func13, Try.ntmps13
            go_wp2_with (first
              | ((with_reducible refine aw_box (dst := some 2) (t := 24) (v := .agg #[.int .i64 l, .int .i64 e, .int .i64 i, .int .i64 c, v]) rfl ?_); intro w1 hb1 hk1 hz1)
              | ((with_reducible refine aw_box (dst := some 3) (t := 24) (v := .agg #[.int .i64 l', .int .i64 e', .int .i64 i', .int .i64 c', v']) rfl ?_); intro w2 hb2 hk2 hz2; have c0 : w2.cell? ⟨w.heap.size, 0, none⟩ = some (.int .i64 l) := (hk2.blk hb1 (fun h => h)).cell 0; have c1 : w2.cell? ⟨w.heap.size, 1, none⟩ = some (.int .i64 e) := (hk2.blk hb1 (fun h => h)).cell 1; have c2 : w2.cell? ⟨w.heap.size, 2, none⟩ = some (.int .i64 i) := (hk2.blk hb1 (fun h => h)).cell 2; have c3 : w2.cell? ⟨w.heap.size, 3, none⟩ = some (.int .i64 c) := (hk2.blk hb1 (fun h => h)).cell 3; have c4 : w2.cell? ⟨w.heap.size, 4, none⟩ = some v := (hk2.blk hb1 (fun h => h)).cell 4; have d0 : w2.cell? ⟨w1.heap.size, 0, none⟩ = some (.int .i64 l') := hb2.cell 0; have d1 : w2.cell? ⟨w1.heap.size, 1, none⟩ = some (.int .i64 e') := hb2.cell 1; have d2 : w2.cell? ⟨w1.heap.size, 2, none⟩ = some (.int .i64 i') := hb2.cell 2; have d3 : w2.cell? ⟨w1.heap.size, 3, none⟩ = some (.int .i64 c') := hb2.cell 3; have d4 : w2.cell? ⟨w1.heap.size, 4, none⟩ = some v' := hb2.cell 4; have s1 := run_strS ((HA.out.kept hk1).kept hk2); have s2 := run_strS ((HA'.out.kept hk1).kept hk2); have hkk := hide (hk1.trans hk2 (fun _ _ h => h)); clear hb1 hb2 hk1 hk2 hz1 hz2)
              | fail)
            go_ret
            refine ⟨?_, hkk.out⟩
            rw [← Hb.out]
            have h1 := H1.out
            have h2 := H2.out
            have h3 := H3.out
            have h4 := H4.out
            have h5 := H5.out
            have fin : decide (l = l' ∧ e = e' ∧ i = i' ∧ c = c' ∧ A = A') = true := by simp [h1, h2, h3, h4, h5]
            rw [fin]
            try simp
            rw [h5]
          · have h5n : ¬ strN A = strN A' := fun h => h5 ((strN_iff HL.out HL'.out).1 h)
            have h5b : decide (strN A = strN A') = false := by simpa using h5n
            have H5 := hide h5
            clear h5 h5n
            go_enter Try.func13, Try.ntmps13
            go_wp2_with (first
              | ((with_reducible refine aw_box (dst := some 2) (t := 24) (v := .agg #[.int .i64 l, .int .i64 e, .int .i64 i, .int .i64 c, v]) rfl ?_); intro w1 hb1 hk1 hz1)
              | ((with_reducible refine aw_box (dst := some 3) (t := 24) (v := .agg #[.int .i64 l', .int .i64 e', .int .i64 i', .int .i64 c', v']) rfl ?_); intro w2 hb2 hk2 hz2; have c0 : w2.cell? ⟨w.heap.size, 0, none⟩ = some (.int .i64 l) := (hk2.blk hb1 (fun h => h)).cell 0; have c1 : w2.cell? ⟨w.heap.size, 1, none⟩ = some (.int .i64 e) := (hk2.blk hb1 (fun h => h)).cell 1; have c2 : w2.cell? ⟨w.heap.size, 2, none⟩ = some (.int .i64 i) := (hk2.blk hb1 (fun h => h)).cell 2; have c3 : w2.cell? ⟨w.heap.size, 3, none⟩ = some (.int .i64 c) := (hk2.blk hb1 (fun h => h)).cell 3; have c4 : w2.cell? ⟨w.heap.size, 4, none⟩ = some v := (hk2.blk hb1 (fun h => h)).cell 4; have d0 : w2.cell? ⟨w1.heap.size, 0, none⟩ = some (.int .i64 l') := hb2.cell 0; have d1 : w2.cell? ⟨w1.heap.size, 1, none⟩ = some (.int .i64 e') := hb2.cell 1; have d2 : w2.cell? ⟨w1.heap.size, 2, none⟩ = some (.int .i64 i') := hb2.cell 2; have d3 : w2.cell? ⟨w1.heap.size, 3, none⟩ = some (.int .i64 c') := hb2.cell 3; have d4 : w2.cell? ⟨w1.heap.size, 4, none⟩ = some v' := hb2.cell 4; have s1 := run_strS ((HA.out.kept hk1).kept hk2); have s2 := run_strS ((HA'.out.kept hk1).kept hk2); have hkk := hide (hk1.trans hk2 (fun _ _ h => h)); clear hb1 hb2 hk1 hk2 hz1 hz2)
              | fail)
            go_ret
            refine ⟨?_, hkk.out⟩
            rw [← Hb.out]
            have h1 := H1.out
            have h2 := H2.out
            have h3 := H3.out
            have h4 := H4.out
            have h5 := H5.out
            have fin : decide (l = l' ∧ e = e' ∧ i = i' ∧ c = c' ∧ A = A') = false := by simp [h5]
            rw [fin]
            try simp
            exact fun h => h5 (strN_inj HL.out HL'.out (by rw [strN_toList, strN_toList] at h; apply ByteArray.ext; rw [strN_data, strN_data, h]))
        · have h4b : (c == c') = false := by simp; omega
          have H4 := hide h4
          clear h4
          go_enter Try.func13, Try.ntmps13
          go_wp2_with (first
            | ((with_reducible refine aw_box (dst := some 2) (t := 24) (v := .agg #[.int .i64 l, .int .i64 e, .int .i64 i, .int .i64 c, v]) rfl ?_); intro w1 hb1 hk1 hz1)
            | ((with_reducible refine aw_box (dst := some 3) (t := 24) (v := .agg #[.int .i64 l', .int .i64 e', .int .i64 i', .int .i64 c', v']) rfl ?_); intro w2 hb2 hk2 hz2; have c0 : w2.cell? ⟨w.heap.size, 0, none⟩ = some (.int .i64 l) := (hk2.blk hb1 (fun h => h)).cell 0; have c1 : w2.cell? ⟨w.heap.size, 1, none⟩ = some (.int .i64 e) := (hk2.blk hb1 (fun h => h)).cell 1; have c2 : w2.cell? ⟨w.heap.size, 2, none⟩ = some (.int .i64 i) := (hk2.blk hb1 (fun h => h)).cell 2; have c3 : w2.cell? ⟨w.heap.size, 3, none⟩ = some (.int .i64 c) := (hk2.blk hb1 (fun h => h)).cell 3; have c4 : w2.cell? ⟨w.heap.size, 4, none⟩ = some v := (hk2.blk hb1 (fun h => h)).cell 4; have d0 : w2.cell? ⟨w1.heap.size, 0, none⟩ = some (.int .i64 l') := hb2.cell 0; have d1 : w2.cell? ⟨w1.heap.size, 1, none⟩ = some (.int .i64 e') := hb2.cell 1; have d2 : w2.cell? ⟨w1.heap.size, 2, none⟩ = some (.int .i64 i') := hb2.cell 2; have d3 : w2.cell? ⟨w1.heap.size, 3, none⟩ = some (.int .i64 c') := hb2.cell 3; have d4 : w2.cell? ⟨w1.heap.size, 4, none⟩ = some v' := hb2.cell 4; have s1 := run_strS ((HA.out.kept hk1).kept hk2); have s2 := run_strS ((HA'.out.kept hk1).kept hk2); have hkk := hide (hk1.trans hk2 (fun _ _ h => h)); clear hb1 hb2 hk1 hk2 hz1 hz2)
            | fail)
          go_ret
          refine ⟨?_, hkk.out⟩
          rw [← Hb.out]
          have h1 := H1.out
          have h2 := H2.out
          have h3 := H3.out
          have h4 := H4.out
          have fin : decide (l = l' ∧ e = e' ∧ i = i' ∧ c = c' ∧ A = A') = false := by simp; try omega
          rw [fin]
          try simp
      · have h3b : (i == i') = false := by simp; omega
        have H3 := hide h3
        clear h3
        go_enter Try.func13, Try.ntmps13
        go_wp2_with (first
          | ((with_reducible refine aw_box (dst := some 2) (t := 24) (v := .agg #[.int .i64 l, .int .i64 e, .int .i64 i, .int .i64 c, v]) rfl ?_); intro w1 hb1 hk1 hz1)
          | ((with_reducible refine aw_box (dst := some 3) (t := 24) (v := .agg #[.int .i64 l', .int .i64 e', .int .i64 i', .int .i64 c', v']) rfl ?_); intro w2 hb2 hk2 hz2; have c0 : w2.cell? ⟨w.heap.size, 0, none⟩ = some (.int .i64 l) := (hk2.blk hb1 (fun h => h)).cell 0; have c1 : w2.cell? ⟨w.heap.size, 1, none⟩ = some (.int .i64 e) := (hk2.blk hb1 (fun h => h)).cell 1; have c2 : w2.cell? ⟨w.heap.size, 2, none⟩ = some (.int .i64 i) := (hk2.blk hb1 (fun h => h)).cell 2; have c3 : w2.cell? ⟨w.heap.size, 3, none⟩ = some (.int .i64 c) := (hk2.blk hb1 (fun h => h)).cell 3; have c4 : w2.cell? ⟨w.heap.size, 4, none⟩ = some v := (hk2.blk hb1 (fun h => h)).cell 4; have d0 : w2.cell? ⟨w1.heap.size, 0, none⟩ = some (.int .i64 l') := hb2.cell 0; have d1 : w2.cell? ⟨w1.heap.size, 1, none⟩ = some (.int .i64 e') := hb2.cell 1; have d2 : w2.cell? ⟨w1.heap.size, 2, none⟩ = some (.int .i64 i') := hb2.cell 2; have d3 : w2.cell? ⟨w1.heap.size, 3, none⟩ = some (.int .i64 c') := hb2.cell 3; have d4 : w2.cell? ⟨w1.heap.size, 4, none⟩ = some v' := hb2.cell 4; have s1 := run_strS ((HA.out.kept hk1).kept hk2); have s2 := run_strS ((HA'.out.kept hk1).kept hk2); have hkk := hide (hk1.trans hk2 (fun _ _ h => h)); clear hb1 hb2 hk1 hk2 hz1 hz2)
          | fail)
        go_ret
        refine ⟨?_, hkk.out⟩
        rw [← Hb.out]
        have h1 := H1.out
        have h2 := H2.out
        have h3 := H3.out
        have fin : decide (l = l' ∧ e = e' ∧ i = i' ∧ c = c' ∧ A = A') = false := by simp; try omega
        rw [fin]
        try simp
    · have h2b : (e == e') = false := by simp; omega
      have H2 := hide h2
      clear h2
      go_enter Try.func13, Try.ntmps13
      go_wp2_with (first
        | ((with_reducible refine aw_box (dst := some 2) (t := 24) (v := .agg #[.int .i64 l, .int .i64 e, .int .i64 i, .int .i64 c, v]) rfl ?_); intro w1 hb1 hk1 hz1)
        | ((with_reducible refine aw_box (dst := some 3) (t := 24) (v := .agg #[.int .i64 l', .int .i64 e', .int .i64 i', .int .i64 c', v']) rfl ?_); intro w2 hb2 hk2 hz2; have c0 : w2.cell? ⟨w.heap.size, 0, none⟩ = some (.int .i64 l) := (hk2.blk hb1 (fun h => h)).cell 0; have c1 : w2.cell? ⟨w.heap.size, 1, none⟩ = some (.int .i64 e) := (hk2.blk hb1 (fun h => h)).cell 1; have c2 : w2.cell? ⟨w.heap.size, 2, none⟩ = some (.int .i64 i) := (hk2.blk hb1 (fun h => h)).cell 2; have c3 : w2.cell? ⟨w.heap.size, 3, none⟩ = some (.int .i64 c) := (hk2.blk hb1 (fun h => h)).cell 3; have c4 : w2.cell? ⟨w.heap.size, 4, none⟩ = some v := (hk2.blk hb1 (fun h => h)).cell 4; have d0 : w2.cell? ⟨w1.heap.size, 0, none⟩ = some (.int .i64 l') := hb2.cell 0; have d1 : w2.cell? ⟨w1.heap.size, 1, none⟩ = some (.int .i64 e') := hb2.cell 1; have d2 : w2.cell? ⟨w1.heap.size, 2, none⟩ = some (.int .i64 i') := hb2.cell 2; have d3 : w2.cell? ⟨w1.heap.size, 3, none⟩ = some (.int .i64 c') := hb2.cell 3; have d4 : w2.cell? ⟨w1.heap.size, 4, none⟩ = some v' := hb2.cell 4; have s1 := run_strS ((HA.out.kept hk1).kept hk2); have s2 := run_strS ((HA'.out.kept hk1).kept hk2); have hkk := hide (hk1.trans hk2 (fun _ _ h => h)); clear hb1 hb2 hk1 hk2 hz1 hz2)
        | fail)
      go_ret
      refine ⟨?_, hkk.out⟩
      rw [← Hb.out]
      have h1 := H1.out
      have h2 := H2.out
      have fin : decide (l = l' ∧ e = e' ∧ i = i' ∧ c = c' ∧ A = A') = false := by simp; try omega
      rw [fin]
      try simp
  · have h1b : (l == l') = false := by simp; omega
    have H1 := hide h1
    clear h1
    go_enter Try.func13, Try.ntmps13
    go_wp2_with (first
      | ((with_reducible refine aw_box (dst := some 2) (t := 24) (v := .agg #[.int .i64 l, .int .i64 e, .int .i64 i, .int .i64 c, v]) rfl ?_); intro w1 hb1 hk1 hz1)
      | ((with_reducible refine aw_box (dst := some 3) (t := 24) (v := .agg #[.int .i64 l', .int .i64 e', .int .i64 i', .int .i64 c', v']) rfl ?_); intro w2 hb2 hk2 hz2; have c0 : w2.cell? ⟨w.heap.size, 0, none⟩ = some (.int .i64 l) := (hk2.blk hb1 (fun h => h)).cell 0; have c1 : w2.cell? ⟨w.heap.size, 1, none⟩ = some (.int .i64 e) := (hk2.blk hb1 (fun h => h)).cell 1; have c2 : w2.cell? ⟨w.heap.size, 2, none⟩ = some (.int .i64 i) := (hk2.blk hb1 (fun h => h)).cell 2; have c3 : w2.cell? ⟨w.heap.size, 3, none⟩ = some (.int .i64 c) := (hk2.blk hb1 (fun h => h)).cell 3; have c4 : w2.cell? ⟨w.heap.size, 4, none⟩ = some v := (hk2.blk hb1 (fun h => h)).cell 4; have d0 : w2.cell? ⟨w1.heap.size, 0, none⟩ = some (.int .i64 l') := hb2.cell 0; have d1 : w2.cell? ⟨w1.heap.size, 1, none⟩ = some (.int .i64 e') := hb2.cell 1; have d2 : w2.cell? ⟨w1.heap.size, 2, none⟩ = some (.int .i64 i') := hb2.cell 2; have d3 : w2.cell? ⟨w1.heap.size, 3, none⟩ = some (.int .i64 c') := hb2.cell 3; have d4 : w2.cell? ⟨w1.heap.size, 4, none⟩ = some v' := hb2.cell 4; have s1 := run_strS ((HA.out.kept hk1).kept hk2); have s2 := run_strS ((HA'.out.kept hk1).kept hk2); have hkk := hide (hk1.trans hk2 (fun _ _ h => h)); clear hb1 hb2 hk1 hk2 hz1 hz2)
      | fail)
    go_ret
    refine ⟨?_, hkk.out⟩
    rw [← Hb.out]
    have h1 := H1.out
    have fin : decide (l = l' ∧ e = e' ∧ i = i' ∧ c = c' ∧ A = A') = false := by simp; try omega
    rw [fin]
    try simp
theorem same_at (w : World) (f g : Fr) (vf vg : Value) (hf : Src w vf f.B) (hg : Src w vg g.B) : Calls Try.prog 13 #[frAgg f vf, frAgg g vg] w fun e w' => e = .returned (.bool (sameN f g)) ∧ Kept (fun _ => False) w w' :=
  sameP_at w f.lsn f.ep f.ix f.ct vf f.B g.lsn g.ep g.ix g.ct vg g.B hf hg _ rfl
end Go.Proofs.Ytjkggmjcaedggaa
