/-
  comes: is a frame the one that comes there?
-/
import Derived.Test.YtjkggmjcaedggaaFrSpread
namespace Go.Proofs.Ytjkggmjcaedggaa
open Go.RowKit Go.Shelf
set_option linter.unusedSimpArgs false
set_option linter.unusedVariables false

def comesP (l e i c : Int) (len : Nat) (l' e' i' c' : Int) : Bool := (decide (l = l' ∧ e = e' ∧ i = i' ∧ c = c') && (decide (i = c - 1) || decide (len = 40))) && (decide (i = 0) || decide (0 < len))
set_option maxRecDepth 100000 in
set_option maxHeartbeats 4000000 in
theorem comesP_at (w : World) (l e i c : Int) (bo : Option Addr) (len cap : Nat) (l' e' i' c' : Int) (vn : Value) (hc : 0 ≤ c ∧ c ≤ 65535) (b : Bool) (hb : comesP l e i c len l' e' i' c' = b) :
    Calls Try.prog 34 #[.agg #[.int .i64 l, .int .i64 e, .int .i64 i, .int .i64 c, .slice bo len cap], .agg #[.int .i64 l', .int .i64 e', .int .i64 i', .int .i64 c', vn]] w fun e w' => e = .returned (.bool b) ∧ Kept (fun _ => False) w w' := by
  have hc1 := hc.1
  have hc2 := hc.2
  have Hb := hide hb
  clear hb hc
  by_cases h1 : l = l'
  · have h1b : (l == l') = true := by simp; omega
    have H1 := hide h1
    clear h1
    by_cases h2 : e = e'
    · have h2b : (e == e') = true := by simp; omega
      have H2 := hide h2
      clear h2
      by_cases h3 : i = i'
      · have h3b : (i == i') = true := by simp; omega
        have H3 := hide h3
        clear h3
        by_cases h4 : c = c'
        · have h4b : (c == c') = true := by simp; omega
          have H4 := hide h4
          clear h4
          by_cases h5 : i = c - 1
          · have h5b : (i == c - 1) = true := by simp; omega
            have H5 := hide h5
            clear h5
            by_cases h6 : i = 0
            · have h6b : (i == 0) = true := by simp; omega
              have H6 := hide h6
              clear h6
              go_enter Try.func34, Try.ntmps34
              go_wp2_with (first
                | ((with_reducible refine aw_box (dst := some 2) (t := 24) (v := .agg #[.int .i64 l, .int .i64 e, .int .i64 i, .int .i64 c, .slice bo len cap]) rfl ?_); intro w1 hb1 hk1 hz1)
                | ((with_reducible refine aw_box (dst := some 3) (t := 24) (v := .agg #[.int .i64 l', .int .i64 e', .int .i64 i', .int .i64 c', vn]) rfl ?_); intro w2 hb2 hk2 hz2; have c0 : w2.cell? ⟨w.heap.size, 0, none⟩ = some (.int .i64 l) := (hk2.blk hb1 (fun h => h)).cell 0; have c1 : w2.cell? ⟨w.heap.size, 1, none⟩ = some (.int .i64 e) := (hk2.blk hb1 (fun h => h)).cell 1; have c2 : w2.cell? ⟨w.heap.size, 2, none⟩ = some (.int .i64 i) := (hk2.blk hb1 (fun h => h)).cell 2; have c3 : w2.cell? ⟨w.heap.size, 3, none⟩ = some (.int .i64 c) := (hk2.blk hb1 (fun h => h)).cell 3; have c4 : w2.cell? ⟨w.heap.size, 4, none⟩ = some (.slice bo len cap) := (hk2.blk hb1 (fun h => h)).cell 4; have d0 : w2.cell? ⟨w1.heap.size, 0, none⟩ = some (.int .i64 l') := hb2.cell 0; have d1 : w2.cell? ⟨w1.heap.size, 1, none⟩ = some (.int .i64 e') := hb2.cell 1; have d2 : w2.cell? ⟨w1.heap.size, 2, none⟩ = some (.int .i64 i') := hb2.cell 2; have d3 : w2.cell? ⟨w1.heap.size, 3, none⟩ = some (.int .i64 c') := hb2.cell 3; have hkk := hide (hk1.trans hk2 (fun _ _ h => h)); clear hb1 hb2 hk1 hk2 hz1 hz2)
                | fail)
              go_ret
              refine ⟨?_, hkk.out⟩
              rw [← Hb.out]
              have h1 := H1.out
              have h2 := H2.out
              have h3 := H3.out
              have h4 := H4.out
              have h5 := H5.out
              have h6 := H6.out
              have fin : (comesP l e i c len l' e' i' c') = true := by
                unfold comesP
                simp
                try omega
              rw [fin]
              try simp
              try omega
            · have h6b : (i == 0) = false := by simp; omega
              have H6 := hide h6
              clear h6
              by_cases h7 : 0 < len
              · have h7b : ¬ len = 0 := by omega
                go_enter Try.func34, Try.ntmps34
                go_wp2_with (first
                  | ((with_reducible refine aw_box (dst := some 2) (t := 24) (v := .agg #[.int .i64 l, .int .i64 e, .int .i64 i, .int .i64 c, .slice bo len cap]) rfl ?_); intro w1 hb1 hk1 hz1)
                  | ((with_reducible refine aw_box (dst := some 3) (t := 24) (v := .agg #[.int .i64 l', .int .i64 e', .int .i64 i', .int .i64 c', vn]) rfl ?_); intro w2 hb2 hk2 hz2; have c0 : w2.cell? ⟨w.heap.size, 0, none⟩ = some (.int .i64 l) := (hk2.blk hb1 (fun h => h)).cell 0; have c1 : w2.cell? ⟨w.heap.size, 1, none⟩ = some (.int .i64 e) := (hk2.blk hb1 (fun h => h)).cell 1; have c2 : w2.cell? ⟨w.heap.size, 2, none⟩ = some (.int .i64 i) := (hk2.blk hb1 (fun h => h)).cell 2; have c3 : w2.cell? ⟨w.heap.size, 3, none⟩ = some (.int .i64 c) := (hk2.blk hb1 (fun h => h)).cell 3; have c4 : w2.cell? ⟨w.heap.size, 4, none⟩ = some (.slice bo len cap) := (hk2.blk hb1 (fun h => h)).cell 4; have d0 : w2.cell? ⟨w1.heap.size, 0, none⟩ = some (.int .i64 l') := hb2.cell 0; have d1 : w2.cell? ⟨w1.heap.size, 1, none⟩ = some (.int .i64 e') := hb2.cell 1; have d2 : w2.cell? ⟨w1.heap.size, 2, none⟩ = some (.int .i64 i') := hb2.cell 2; have d3 : w2.cell? ⟨w1.heap.size, 3, none⟩ = some (.int .i64 c') := hb2.cell 3; have hkk := hide (hk1.trans hk2 (fun _ _ h => h)); clear hb1 hb2 hk1 hk2 hz1 hz2)
                  | fail)
                go_ret
                refine ⟨?_, hkk.out⟩
                rw [← Hb.out]
                have h1 := H1.out
                have h2 := H2.out
                have h3 := H3.out
                have h4 := H4.out
                have h5 := H5.out
                have h6 := H6.out
                have fin : (comesP l e i c len l' e' i' c') = true := by
                  unfold comesP
                  simp
                  try omega
                rw [fin]
                try simp
                try omega
              · have h7b : ¬ (0 : Int) < (len : Int) := by omega
                go_enter Try.func34, Try.ntmps34
                go_wp2_with (first
                  | ((with_reducible refine aw_box (dst := some 2) (t := 24) (v := .agg #[.int .i64 l, .int .i64 e, .int .i64 i, .int .i64 c, .slice bo len cap]) rfl ?_); intro w1 hb1 hk1 hz1)
                  | ((with_reducible refine aw_box (dst := some 3) (t := 24) (v := .agg #[.int .i64 l', .int .i64 e', .int .i64 i', .int .i64 c', vn]) rfl ?_); intro w2 hb2 hk2 hz2; have c0 : w2.cell? ⟨w.heap.size, 0, none⟩ = some (.int .i64 l) := (hk2.blk hb1 (fun h => h)).cell 0; have c1 : w2.cell? ⟨w.heap.size, 1, none⟩ = some (.int .i64 e) := (hk2.blk hb1 (fun h => h)).cell 1; have c2 : w2.cell? ⟨w.heap.size, 2, none⟩ = some (.int .i64 i) := (hk2.blk hb1 (fun h => h)).cell 2; have c3 : w2.cell? ⟨w.heap.size, 3, none⟩ = some (.int .i64 c) := (hk2.blk hb1 (fun h => h)).cell 3; have c4 : w2.cell? ⟨w.heap.size, 4, none⟩ = some (.slice bo len cap) := (hk2.blk hb1 (fun h => h)).cell 4; have d0 : w2.cell? ⟨w1.heap.size, 0, none⟩ = some (.int .i64 l') := hb2.cell 0; have d1 : w2.cell? ⟨w1.heap.size, 1, none⟩ = some (.int .i64 e') := hb2.cell 1; have d2 : w2.cell? ⟨w1.heap.size, 2, none⟩ = some (.int .i64 i') := hb2.cell 2; have d3 : w2.cell? ⟨w1.heap.size, 3, none⟩ = some (.int .i64 c') := hb2.cell 3; have hkk := hide (hk1.trans hk2 (fun _ _ h => h)); clear hb1 hb2 hk1 hk2 hz1 hz2)
                  | fail)
                go_ret
                refine ⟨?_, hkk.out⟩
                rw [← Hb.out]
                have h1 := H1.out
                have h2 := H2.out
                have h3 := H3.out
                have h4 := H4.out
                have h5 := H5.out
                have h6 := H6.out
                have fin : (comesP l e i c len l' e' i' c') = false := by
                  unfold comesP
                  simp
                  try omega
                rw [fin]
                try simp
                try omega
          · have h5b : (i == c - 1) = false := by simp; omega
            have H5 := hide h5
            clear h5
            by_cases h8 : len = 40
            · have h8b : ((len : Int) == 40) = true := by simp; omega
              have H8 := hide h8
              clear h8
              by_cases h6 : i = 0
              · have h6b : (i == 0) = true := by simp; omega
                have H6 := hide h6
                clear h6
                go_enter Try.func34, Try.ntmps34
                go_wp2_with (first
                  | ((with_reducible refine aw_box (dst := some 2) (t := 24) (v := .agg #[.int .i64 l, .int .i64 e, .int .i64 i, .int .i64 c, .slice bo len cap]) rfl ?_); intro w1 hb1 hk1 hz1)
                  | ((with_reducible refine aw_box (dst := some 3) (t := 24) (v := .agg #[.int .i64 l', .int .i64 e', .int .i64 i', .int .i64 c', vn]) rfl ?_); intro w2 hb2 hk2 hz2; have c0 : w2.cell? ⟨w.heap.size, 0, none⟩ = some (.int .i64 l) := (hk2.blk hb1 (fun h => h)).cell 0; have c1 : w2.cell? ⟨w.heap.size, 1, none⟩ = some (.int .i64 e) := (hk2.blk hb1 (fun h => h)).cell 1; have c2 : w2.cell? ⟨w.heap.size, 2, none⟩ = some (.int .i64 i) := (hk2.blk hb1 (fun h => h)).cell 2; have c3 : w2.cell? ⟨w.heap.size, 3, none⟩ = some (.int .i64 c) := (hk2.blk hb1 (fun h => h)).cell 3; have c4 : w2.cell? ⟨w.heap.size, 4, none⟩ = some (.slice bo len cap) := (hk2.blk hb1 (fun h => h)).cell 4; have d0 : w2.cell? ⟨w1.heap.size, 0, none⟩ = some (.int .i64 l') := hb2.cell 0; have d1 : w2.cell? ⟨w1.heap.size, 1, none⟩ = some (.int .i64 e') := hb2.cell 1; have d2 : w2.cell? ⟨w1.heap.size, 2, none⟩ = some (.int .i64 i') := hb2.cell 2; have d3 : w2.cell? ⟨w1.heap.size, 3, none⟩ = some (.int .i64 c') := hb2.cell 3; have hkk := hide (hk1.trans hk2 (fun _ _ h => h)); clear hb1 hb2 hk1 hk2 hz1 hz2)
                  | fail)
                go_ret
                refine ⟨?_, hkk.out⟩
                rw [← Hb.out]
                have h1 := H1.out
                have h2 := H2.out
                have h3 := H3.out
                have h4 := H4.out
                have h5 := H5.out
                have h8 := H8.out
                have h6 := H6.out
                have fin : (comesP l e i c len l' e' i' c') = true := by
                  unfold comesP
                  simp
                  try omega
                rw [fin]
                try simp
                try omega
              · have h6b : (i == 0) = false := by simp; omega
                have H6 := hide h6
                clear h6
                go_enter Try.func34, Try.ntmps34
                go_wp2_with (first
                  | ((with_reducible refine aw_box (dst := some 2) (t := 24) (v := .agg #[.int .i64 l, .int .i64 e, .int .i64 i, .int .i64 c, .slice bo len cap]) rfl ?_); intro w1 hb1 hk1 hz1)
                  | ((with_reducible refine aw_box (dst := some 3) (t := 24) (v := .agg #[.int .i64 l', .int .i64 e', .int .i64 i', .int .i64 c', vn]) rfl ?_); intro w2 hb2 hk2 hz2; have c0 : w2.cell? ⟨w.heap.size, 0, none⟩ = some (.int .i64 l) := (hk2.blk hb1 (fun h => h)).cell 0; have c1 : w2.cell? ⟨w.heap.size, 1, none⟩ = some (.int .i64 e) := (hk2.blk hb1 (fun h => h)).cell 1; have c2 : w2.cell? ⟨w.heap.size, 2, none⟩ = some (.int .i64 i) := (hk2.blk hb1 (fun h => h)).cell 2; have c3 : w2.cell? ⟨w.heap.size, 3, none⟩ = some (.int .i64 c) := (hk2.blk hb1 (fun h => h)).cell 3; have c4 : w2.cell? ⟨w.heap.size, 4, none⟩ = some (.slice bo len cap) := (hk2.blk hb1 (fun h => h)).cell 4; have d0 : w2.cell? ⟨w1.heap.size, 0, none⟩ = some (.int .i64 l') := hb2.cell 0; have d1 : w2.cell? ⟨w1.heap.size, 1, none⟩ = some (.int .i64 e') := hb2.cell 1; have d2 : w2.cell? ⟨w1.heap.size, 2, none⟩ = some (.int .i64 i') := hb2.cell 2; have d3 : w2.cell? ⟨w1.heap.size, 3, none⟩ = some (.int .i64 c') := hb2.cell 3; have hkk := hide (hk1.trans hk2 (fun _ _ h => h)); clear hb1 hb2 hk1 hk2 hz1 hz2)
                  | fail)
                go_ret
                refine ⟨?_, hkk.out⟩
                rw [← Hb.out]
                have h1 := H1.out
                have h2 := H2.out
                have h3 := H3.out
                have h4 := H4.out
                have h5 := H5.out
                have h8 := H8.out
                have h6 := H6.out
                have fin : (comesP l e i c len l' e' i' c') = true := by
                  unfold comesP
                  simp
                  try omega
                rw [fin]
                try simp
                try omega
            · have h8b : ((len : Int) == 40) = false := by simp; omega
              have H8 := hide h8
              clear h8
              go_enter Try.func34, Try.ntmps34
              go_wp2_with (first
                | ((with_reducible refine aw_box (dst := some 2) (t := 24) (v := .agg #[.int .i64 l, .int .i64 e, .int .i64 i, .int .i64 c, .slice bo len cap]) rfl ?_); intro w1 hb1 hk1 hz1)
                | ((with_reducible refine aw_box (dst := some 3) (t := 24) (v := .agg #[.int .i64 l', .int .i64 e', .int .i64 i', .int .i64 c', vn]) rfl ?_); intro w2 hb2 hk2 hz2; have c0 : w2.cell? ⟨w.heap.size, 0, none⟩ = some (.int .i64 l) := (hk2.blk hb1 (fun h => h)).cell 0; have c1 : w2.cell? ⟨w.heap.size, 1, none⟩ = some (.int .i64 e) := (hk2.blk hb1 (fun h => h)).cell 1; have c2 : w2.cell? ⟨w.heap.size, 2, none⟩ = some (.int .i64 i) := (hk2.blk hb1 (fun h => h)).cell 2; have c3 : w2.cell? ⟨w.heap.size, 3, none⟩ = some (.int .i64 c) := (hk2.blk hb1 (fun h => h)).cell 3; have c4 : w2.cell? ⟨w.heap.size, 4, none⟩ = some (.slice bo len cap) := (hk2.blk hb1 (fun h => h)).cell 4; have d0 : w2.cell? ⟨w1.heap.size, 0, none⟩ = some (.int .i64 l') := hb2.cell 0; have d1 : w2.cell? ⟨w1.heap.size, 1, none⟩ = some (.int .i64 e') := hb2.cell 1; have d2 : w2.cell? ⟨w1.heap.size, 2, none⟩ = some (.int .i64 i') := hb2.cell 2; have d3 : w2.cell? ⟨w1.heap.size, 3, none⟩ = some (.int .i64 c') := hb2.cell 3; have hkk := hide (hk1.trans hk2 (fun _ _ h => h)); clear hb1 hb2 hk1 hk2 hz1 hz2)
                | fail)
              go_ret
              refine ⟨?_, hkk.out⟩
              rw [← Hb.out]
              have h1 := H1.out
              have h2 := H2.out
              have h3 := H3.out
              have h4 := H4.out
              have h5 := H5.out
              have h8 := H8.out
              have fin : (comesP l e i c len l' e' i' c') = false := by
                unfold comesP
                simp
                try omega
              rw [fin]
              try simp
              try omega
        · have h4b : (c == c') = false := by simp; omega
          have H4 := hide h4
          clear h4
          go_enter Try.func34, Try.ntmps34
          go_wp2_with (first
            | ((with_reducible refine aw_box (dst := some 2) (t := 24) (v := .agg #[.int .i64 l, .int .i64 e, .int .i64 i, .int .i64 c, .slice bo len cap]) rfl ?_); intro w1 hb1 hk1 hz1)
            | ((with_reducible refine aw_box (dst := some 3) (t := 24) (v := .agg #[.int .i64 l', .int .i64 e', .int .i64 i', .int .i64 c', vn]) rfl ?_); intro w2 hb2 hk2 hz2; have c0 : w2.cell? ⟨w.heap.size, 0, none⟩ = some (.int .i64 l) := (hk2.blk hb1 (fun h => h)).cell 0; have c1 : w2.cell? ⟨w.heap.size, 1, none⟩ = some (.int .i64 e) := (hk2.blk hb1 (fun h => h)).cell 1; have c2 : w2.cell? ⟨w.heap.size, 2, none⟩ = some (.int .i64 i) := (hk2.blk hb1 (fun h => h)).cell 2; have c3 : w2.cell? ⟨w.heap.size, 3, none⟩ = some (.int .i64 c) := (hk2.blk hb1 (fun h => h)).cell 3; have c4 : w2.cell? ⟨w.heap.size, 4, none⟩ = some (.slice bo len cap) := (hk2.blk hb1 (fun h => h)).cell 4; have d0 : w2.cell? ⟨w1.heap.size, 0, none⟩ = some (.int .i64 l') := hb2.cell 0; have d1 : w2.cell? ⟨w1.heap.size, 1, none⟩ = some (.int .i64 e') := hb2.cell 1; have d2 : w2.cell? ⟨w1.heap.size, 2, none⟩ = some (.int .i64 i') := hb2.cell 2; have d3 : w2.cell? ⟨w1.heap.size, 3, none⟩ = some (.int .i64 c') := hb2.cell 3; have hkk := hide (hk1.trans hk2 (fun _ _ h => h)); clear hb1 hb2 hk1 hk2 hz1 hz2)
            | fail)
          go_ret
          refine ⟨?_, hkk.out⟩
          rw [← Hb.out]
          have h1 := H1.out
          have h2 := H2.out
          have h3 := H3.out
          have h4 := H4.out
          have fin : (comesP l e i c len l' e' i' c') = false := by
            unfold comesP
            simp
            try omega
          rw [fin]
          try simp
          try omega
      · have h3b : (i == i') = false := by simp; omega
        have H3 := hide h3
        clear h3
        go_enter Try.func34, Try.ntmps34
        go_wp2_with (first
          | ((with_reducible refine aw_box (dst := some 2) (t := 24) (v := .agg #[.int .i64 l, .int .i64 e, .int .i64 i, .int .i64 c, .slice bo len cap]) rfl ?_); intro w1 hb1 hk1 hz1)
          | ((with_reducible refine aw_box (dst := some 3) (t := 24) (v := .agg #[.int .i64 l', .int .i64 e', .int .i64 i', .int .i64 c', vn]) rfl ?_); intro w2 hb2 hk2 hz2; have c0 : w2.cell? ⟨w.heap.size, 0, none⟩ = some (.int .i64 l) := (hk2.blk hb1 (fun h => h)).cell 0; have c1 : w2.cell? ⟨w.heap.size, 1, none⟩ = some (.int .i64 e) := (hk2.blk hb1 (fun h => h)).cell 1; have c2 : w2.cell? ⟨w.heap.size, 2, none⟩ = some (.int .i64 i) := (hk2.blk hb1 (fun h => h)).cell 2; have c3 : w2.cell? ⟨w.heap.size, 3, none⟩ = some (.int .i64 c) := (hk2.blk hb1 (fun h => h)).cell 3; have c4 : w2.cell? ⟨w.heap.size, 4, none⟩ = some (.slice bo len cap) := (hk2.blk hb1 (fun h => h)).cell 4; have d0 : w2.cell? ⟨w1.heap.size, 0, none⟩ = some (.int .i64 l') := hb2.cell 0; have d1 : w2.cell? ⟨w1.heap.size, 1, none⟩ = some (.int .i64 e') := hb2.cell 1; have d2 : w2.cell? ⟨w1.heap.size, 2, none⟩ = some (.int .i64 i') := hb2.cell 2; have d3 : w2.cell? ⟨w1.heap.size, 3, none⟩ = some (.int .i64 c') := hb2.cell 3; have hkk := hide (hk1.trans hk2 (fun _ _ h => h)); clear hb1 hb2 hk1 hk2 hz1 hz2)
          | fail)
        go_ret
        refine ⟨?_, hkk.out⟩
        rw [← Hb.out]
        have h1 := H1.out
        have h2 := H2.out
        have h3 := H3.out
        have fin : (comesP l e i c len l' e' i' c') = false := by
          unfold comesP
          simp
          try omega
        rw [fin]
        try simp
        try omega
    · have h2b : (e == e') = false := by simp; omega
      have H2 := hide h2
      clear h2
      go_enter Try.func34, Try.ntmps34
      go_wp2_with (first
        | ((with_reducible refine aw_box (dst := some 2) (t := 24) (v := .agg #[.int .i64 l, .int .i64 e, .int .i64 i, .int .i64 c, .slice bo len cap]) rfl ?_); intro w1 hb1 hk1 hz1)
        | ((with_reducible refine aw_box (dst := some 3) (t := 24) (v := .agg #[.int .i64 l', .int .i64 e', .int .i64 i', .int .i64 c', vn]) rfl ?_); intro w2 hb2 hk2 hz2; have c0 : w2.cell? ⟨w.heap.size, 0, none⟩ = some (.int .i64 l) := (hk2.blk hb1 (fun h => h)).cell 0; have c1 : w2.cell? ⟨w.heap.size, 1, none⟩ = some (.int .i64 e) := (hk2.blk hb1 (fun h => h)).cell 1; have c2 : w2.cell? ⟨w.heap.size, 2, none⟩ = some (.int .i64 i) := (hk2.blk hb1 (fun h => h)).cell 2; have c3 : w2.cell? ⟨w.heap.size, 3, none⟩ = some (.int .i64 c) := (hk2.blk hb1 (fun h => h)).cell 3; have c4 : w2.cell? ⟨w.heap.size, 4, none⟩ = some (.slice bo len cap) := (hk2.blk hb1 (fun h => h)).cell 4; have d0 : w2.cell? ⟨w1.heap.size, 0, none⟩ = some (.int .i64 l') := hb2.cell 0; have d1 : w2.cell? ⟨w1.heap.size, 1, none⟩ = some (.int .i64 e') := hb2.cell 1; have d2 : w2.cell? ⟨w1.heap.size, 2, none⟩ = some (.int .i64 i') := hb2.cell 2; have d3 : w2.cell? ⟨w1.heap.size, 3, none⟩ = some (.int .i64 c') := hb2.cell 3; have hkk := hide (hk1.trans hk2 (fun _ _ h => h)); clear hb1 hb2 hk1 hk2 hz1 hz2)
        | fail)
      go_ret
      refine ⟨?_, hkk.out⟩
      rw [← Hb.out]
      have h1 := H1.out
      have h2 := H2.out
      have fin : (comesP l e i c len l' e' i' c') = false := by
        unfold comesP
        simp
        try omega
      rw [fin]
      try simp
      try omega
  · have h1b : (l == l') = false := by simp; omega
    have H1 := hide h1
    clear h1
    go_enter Try.func34, Try.ntmps34
    go_wp2_with (first
      | ((with_reducible refine aw_box (dst := some 2) (t := 24) (v := .agg #[.int .i64 l, .int .i64 e, .int .i64 i, .int .i64 c, .slice bo len cap]) rfl ?_); intro w1 hb1 hk1 hz1)
      | ((with_reducible refine aw_box (dst := some 3) (t := 24) (v := .agg #[.int .i64 l', .int .i64 e', .int .i64 i', .int .i64 c', vn]) rfl ?_); intro w2 hb2 hk2 hz2; have c0 : w2.cell? ⟨w.heap.size, 0, none⟩ = some (.int .i64 l) := (hk2.blk hb1 (fun h => h)).cell 0; have c1 : w2.cell? ⟨w.heap.size, 1, none⟩ = some (.int .i64 e) := (hk2.blk hb1 (fun h => h)).cell 1; have c2 : w2.cell? ⟨w.heap.size, 2, none⟩ = some (.int .i64 i) := (hk2.blk hb1 (fun h => h)).cell 2; have c3 : w2.cell? ⟨w.heap.size, 3, none⟩ = some (.int .i64 c) := (hk2.blk hb1 (fun h => h)).cell 3; have c4 : w2.cell? ⟨w.heap.size, 4, none⟩ = some (.slice bo len cap) := (hk2.blk hb1 (fun h => h)).cell 4; have d0 : w2.cell? ⟨w1.heap.size, 0, none⟩ = some (.int .i64 l') := hb2.cell 0; have d1 : w2.cell? ⟨w1.heap.size, 1, none⟩ = some (.int .i64 e') := hb2.cell 1; have d2 : w2.cell? ⟨w1.heap.size, 2, none⟩ = some (.int .i64 i') := hb2.cell 2; have d3 : w2.cell? ⟨w1.heap.size, 3, none⟩ = some (.int .i64 c') := hb2.cell 3; have hkk := hide (hk1.trans hk2 (fun _ _ h => h)); clear hb1 hb2 hk1 hk2 hz1 hz2)
      | fail)
    go_ret
    refine ⟨?_, hkk.out⟩
    rw [← Hb.out]
    have h1 := H1.out
    have fin : (comesP l e i c len l' e' i' c') = false := by
      unfold comesP
      simp
      try omega
    rw [fin]
    try simp
    try omega
theorem comes_at (w : World) (f n : Fr) (vb vn : Value) (hs : ∃ bo cap, vb = .slice bo f.B.length cap) (hc : 0 ≤ f.ct ∧ f.ct ≤ 65535) : Calls Try.prog 34 #[frAgg f vb, frAgg n vn] w fun e w' => e = .returned (.bool (comesN f n)) ∧ Kept (fun _ => False) w w' := by
  obtain ⟨bo, cap, rfl⟩ := hs
  exact comesP_at w f.lsn f.ep f.ix f.ct bo f.B.length cap n.lsn n.ep n.ix n.ct vn hc _ rfl
end Go.Proofs.Ytjkggmjcaedggaa
