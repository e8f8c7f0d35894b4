/-
  Right and Put, of the reference.
-/
import Derived.Test.YtjkggmjcaedggaaFrUnW
import Derived.Test.YtjkggmjcaedggaaPRefT
import Derived.Laws.IdiomStrings
namespace Go.Proofs.Ytjkggmjcaedggaa
open Go.RowKit Go.Shelf
set_option linter.unusedSimpArgs false
set_option linter.unusedVariables false

set_option maxRecDepth 100000 in
set_option maxHeartbeats 8000000 in
theorem rrightP_at (w : World) (l e i c : Int) (bo : Option Addr) (len cap : Nat) (b : Bool) (hb : rightP l e i c len = b) :
    Calls Try.prog 7 #[.agg #[.int .i64 l, .int .i64 e, .int .i64 i, .int .i64 c, .slice bo len cap]] w fun e w' => e = .returned (.bool b) ∧ Kept (fun _ => False) w w' := by
  have Hb : Hid (rightP l e i c len = b) := hide hb
  clear hb
  by_cases h0 : 0 ≤ l
  · have g0 : ¬ l < 0 := by omega
    by_cases h1 : l ≤ 4611686018427387903
    · have g1 : ¬ 4611686018427387903 < l := by omega
      by_cases h2 : 0 ≤ e
      · have g2 : ¬ e < 0 := by omega
        by_cases h3 : e ≤ 4294967295
        · have g3 : ¬ 4294967295 < e := by omega
          by_cases h4 : 1 ≤ c
          · have g4 : ¬ c < 1 := by omega
            by_cases h5 : c ≤ 65535
            · have g5 : ¬ 65535 < c := by omega
              by_cases h6 : 0 ≤ i
              · have g6 : ¬ i < 0 := by omega
                by_cases h7 : i < c
                · have g7 : ¬ c ≤ i := by omega
                  by_cases h8 : len ≤ 40
                  · have g8 : ¬ 40 < len := by omega
                    go_enter Try.func7, Try.ntmps7
                    go_wp2_with (first
                      | ((with_reducible refine aw_box (t := 24) (v := .agg #[.int .i64 l, .int .i64 e, .int .i64 i, .int .i64 c, .slice bo len cap]) rfl ?_); intro w1 hb1 hk1 hz1; have c0 : w1.cell? ⟨w.heap.size, 0, none⟩ = some (.int .i64 l) := hb1.cell 0; have c1 : w1.cell? ⟨w.heap.size, 1, none⟩ = some (.int .i64 e) := hb1.cell 1; have c2 : w1.cell? ⟨w.heap.size, 2, none⟩ = some (.int .i64 i) := hb1.cell 2; have c3 : w1.cell? ⟨w.heap.size, 3, none⟩ = some (.int .i64 c) := hb1.cell 3; have c4 : w1.cell? ⟨w.heap.size, 4, none⟩ = some (.slice bo len cap) := hb1.cell 4; have HK := hide hk1; clear hz1 hb1 hk1)
                      | fail)
                    go_ret
                    refine ⟨?_, HK.out⟩
                    rw [← Hb.out]
                    have fin : rightP l e i c len = true := by unfold rightP; simp; omega
                    rw [fin]
                    try simp
                    try omega
                  · have g8 : 40 < len := by omega
                    go_enter Try.func7, Try.ntmps7
                    go_wp2_with (first
                      | ((with_reducible refine aw_box (t := 24) (v := .agg #[.int .i64 l, .int .i64 e, .int .i64 i, .int .i64 c, .slice bo len cap]) rfl ?_); intro w1 hb1 hk1 hz1; have c0 : w1.cell? ⟨w.heap.size, 0, none⟩ = some (.int .i64 l) := hb1.cell 0; have c1 : w1.cell? ⟨w.heap.size, 1, none⟩ = some (.int .i64 e) := hb1.cell 1; have c2 : w1.cell? ⟨w.heap.size, 2, none⟩ = some (.int .i64 i) := hb1.cell 2; have c3 : w1.cell? ⟨w.heap.size, 3, none⟩ = some (.int .i64 c) := hb1.cell 3; have c4 : w1.cell? ⟨w.heap.size, 4, none⟩ = some (.slice bo len cap) := hb1.cell 4; have HK := hide hk1; clear hz1 hb1 hk1)
                      | fail)
                    go_ret
                    refine ⟨?_, HK.out⟩
                    rw [← Hb.out]
                    have fin : rightP l e i c len = false := by unfold rightP; simp; omega
                    rw [fin]
                    try simp
                    try omega
                · have g7 : ¬ i < c := by omega
                  go_enter Try.func7, Try.ntmps7
                  go_wp2_with (first
                    | ((with_reducible refine aw_box (t := 24) (v := .agg #[.int .i64 l, .int .i64 e, .int .i64 i, .int .i64 c, .slice bo len cap]) rfl ?_); intro w1 hb1 hk1 hz1; have c0 : w1.cell? ⟨w.heap.size, 0, none⟩ = some (.int .i64 l) := hb1.cell 0; have c1 : w1.cell? ⟨w.heap.size, 1, none⟩ = some (.int .i64 e) := hb1.cell 1; have c2 : w1.cell? ⟨w.heap.size, 2, none⟩ = some (.int .i64 i) := hb1.cell 2; have c3 : w1.cell? ⟨w.heap.size, 3, none⟩ = some (.int .i64 c) := hb1.cell 3; have c4 : w1.cell? ⟨w.heap.size, 4, none⟩ = some (.slice bo len cap) := hb1.cell 4; have HK := hide hk1; clear hz1 hb1 hk1)
                    | fail)
                  go_ret
                  refine ⟨?_, HK.out⟩
                  rw [← Hb.out]
                  have fin : rightP l e i c len = false := by unfold rightP; simp; omega
                  rw [fin]
                  try simp
                  try omega
              · have g6 : i < 0 := by omega
                go_enter Try.func7, Try.ntmps7
                go_wp2_with (first
                  | ((with_reducible refine aw_box (t := 24) (v := .agg #[.int .i64 l, .int .i64 e, .int .i64 i, .int .i64 c, .slice bo len cap]) rfl ?_); intro w1 hb1 hk1 hz1; have c0 : w1.cell? ⟨w.heap.size, 0, none⟩ = some (.int .i64 l) := hb1.cell 0; have c1 : w1.cell? ⟨w.heap.size, 1, none⟩ = some (.int .i64 e) := hb1.cell 1; have c2 : w1.cell? ⟨w.heap.size, 2, none⟩ = some (.int .i64 i) := hb1.cell 2; have c3 : w1.cell? ⟨w.heap.size, 3, none⟩ = some (.int .i64 c) := hb1.cell 3; have c4 : w1.cell? ⟨w.heap.size, 4, none⟩ = some (.slice bo len cap) := hb1.cell 4; have HK := hide hk1; clear hz1 hb1 hk1)
                  | fail)
                go_ret
                refine ⟨?_, HK.out⟩
                rw [← Hb.out]
                have fin : rightP l e i c len = false := by unfold rightP; simp; omega
                rw [fin]
                try simp
                try omega
            · have g5 : 65535 < c := by omega
              go_enter Try.func7, Try.ntmps7
              go_wp2_with (first
                | ((with_reducible refine aw_box (t := 24) (v := .agg #[.int .i64 l, .int .i64 e, .int .i64 i, .int .i64 c, .slice bo len cap]) rfl ?_); intro w1 hb1 hk1 hz1; have c0 : w1.cell? ⟨w.heap.size, 0, none⟩ = some (.int .i64 l) := hb1.cell 0; have c1 : w1.cell? ⟨w.heap.size, 1, none⟩ = some (.int .i64 e) := hb1.cell 1; have c2 : w1.cell? ⟨w.heap.size, 2, none⟩ = some (.int .i64 i) := hb1.cell 2; have c3 : w1.cell? ⟨w.heap.size, 3, none⟩ = some (.int .i64 c) := hb1.cell 3; have c4 : w1.cell? ⟨w.heap.size, 4, none⟩ = some (.slice bo len cap) := hb1.cell 4; have HK := hide hk1; clear hz1 hb1 hk1)
                | fail)
              go_ret
              refine ⟨?_, HK.out⟩
              rw [← Hb.out]
              have fin : rightP l e i c len = false := by unfold rightP; simp; omega
              rw [fin]
              try simp
              try omega
          · have g4 : c < 1 := by omega
            go_enter Try.func7, Try.ntmps7
            go_wp2_with (first
              | ((with_reducible refine aw_box (t := 24) (v := .agg #[.int .i64 l, .int .i64 e, .int .i64 i, .int .i64 c, .slice bo len cap]) rfl ?_); intro w1 hb1 hk1 hz1; have c0 : w1.cell? ⟨w.heap.size, 0, none⟩ = some (.int .i64 l) := hb1.cell 0; have c1 : w1.cell? ⟨w.heap.size, 1, none⟩ = some (.int .i64 e) := hb1.cell 1; have c2 : w1.cell? ⟨w.heap.size, 2, none⟩ = some (.int .i64 i) := hb1.cell 2; have c3 : w1.cell? ⟨w.heap.size, 3, none⟩ = some (.int .i64 c) := hb1.cell 3; have c4 : w1.cell? ⟨w.heap.size, 4, none⟩ = some (.slice bo len cap) := hb1.cell 4; have HK := hide hk1; clear hz1 hb1 hk1)
              | fail)
            go_ret
            refine ⟨?_, HK.out⟩
            rw [← Hb.out]
            have fin : rightP l e i c len = false := by unfold rightP; simp; omega
            rw [fin]
            try simp
            try omega
        · have g3 : 4294967295 < e := by omega
          go_enter Try.func7, Try.ntmps7
          go_wp2_with (first
            | ((with_reducible refine aw_box (t := 24) (v := .agg #[.int .i64 l, .int .i64 e, .int .i64 i, .int .i64 c, .slice bo len cap]) rfl ?_); intro w1 hb1 hk1 hz1; have c0 : w1.cell? ⟨w.heap.size, 0, none⟩ = some (.int .i64 l) := hb1.cell 0; have c1 : w1.cell? ⟨w.heap.size, 1, none⟩ = some (.int .i64 e) := hb1.cell 1; have c2 : w1.cell? ⟨w.heap.size, 2, none⟩ = some (.int .i64 i) := hb1.cell 2; have c3 : w1.cell? ⟨w.heap.size, 3, none⟩ = some (.int .i64 c) := hb1.cell 3; have c4 : w1.cell? ⟨w.heap.size, 4, none⟩ = some (.slice bo len cap) := hb1.cell 4; have HK := hide hk1; clear hz1 hb1 hk1)
            | fail)
          go_ret
          refine ⟨?_, HK.out⟩
          rw [← Hb.out]
          have fin : rightP l e i c len = false := by unfold rightP; simp; omega
          rw [fin]
          try simp
          try omega
      · have g2 : e < 0 := by omega
        go_enter Try.func7, Try.ntmps7
        go_wp2_with (first
          | ((with_reducible refine aw_box (t := 24) (v := .agg #[.int .i64 l, .int .i64 e, .int .i64 i, .int .i64 c, .slice bo len cap]) rfl ?_); intro w1 hb1 hk1 hz1; have c0 : w1.cell? ⟨w.heap.size, 0, none⟩ = some (.int .i64 l) := hb1.cell 0; have c1 : w1.cell? ⟨w.heap.size, 1, none⟩ = some (.int .i64 e) := hb1.cell 1; have c2 : w1.cell? ⟨w.heap.size, 2, none⟩ = some (.int .i64 i) := hb1.cell 2; have c3 : w1.cell? ⟨w.heap.size, 3, none⟩ = some (.int .i64 c) := hb1.cell 3; have c4 : w1.cell? ⟨w.heap.size, 4, none⟩ = some (.slice bo len cap) := hb1.cell 4; have HK := hide hk1; clear hz1 hb1 hk1)
          | fail)
        go_ret
        refine ⟨?_, HK.out⟩
        rw [← Hb.out]
        have fin : rightP l e i c len = false := by unfold rightP; simp; omega
        rw [fin]
        try simp
        try omega
    · have g1 : 4611686018427387903 < l := by omega
      go_enter Try.func7, Try.ntmps7
      go_wp2_with (first
        | ((with_reducible refine aw_box (t := 24) (v := .agg #[.int .i64 l, .int .i64 e, .int .i64 i, .int .i64 c, .slice bo len cap]) rfl ?_); intro w1 hb1 hk1 hz1; have c0 : w1.cell? ⟨w.heap.size, 0, none⟩ = some (.int .i64 l) := hb1.cell 0; have c1 : w1.cell? ⟨w.heap.size, 1, none⟩ = some (.int .i64 e) := hb1.cell 1; have c2 : w1.cell? ⟨w.heap.size, 2, none⟩ = some (.int .i64 i) := hb1.cell 2; have c3 : w1.cell? ⟨w.heap.size, 3, none⟩ = some (.int .i64 c) := hb1.cell 3; have c4 : w1.cell? ⟨w.heap.size, 4, none⟩ = some (.slice bo len cap) := hb1.cell 4; have HK := hide hk1; clear hz1 hb1 hk1)
        | fail)
      go_ret
      refine ⟨?_, HK.out⟩
      rw [← Hb.out]
      have fin : rightP l e i c len = false := by unfold rightP; simp; omega
      rw [fin]
      try simp
      try omega
  · have g0 : l < 0 := by omega
    go_enter Try.func7, Try.ntmps7
    go_wp2_with (first
      | ((with_reducible refine aw_box (t := 24) (v := .agg #[.int .i64 l, .int .i64 e, .int .i64 i, .int .i64 c, .slice bo len cap]) rfl ?_); intro w1 hb1 hk1 hz1; have c0 : w1.cell? ⟨w.heap.size, 0, none⟩ = some (.int .i64 l) := hb1.cell 0; have c1 : w1.cell? ⟨w.heap.size, 1, none⟩ = some (.int .i64 e) := hb1.cell 1; have c2 : w1.cell? ⟨w.heap.size, 2, none⟩ = some (.int .i64 i) := hb1.cell 2; have c3 : w1.cell? ⟨w.heap.size, 3, none⟩ = some (.int .i64 c) := hb1.cell 3; have c4 : w1.cell? ⟨w.heap.size, 4, none⟩ = some (.slice bo len cap) := hb1.cell 4; have HK := hide hk1; clear hz1 hb1 hk1)
      | fail)
    go_ret
    refine ⟨?_, HK.out⟩
    rw [← Hb.out]
    have fin : rightP l e i c len = false := by unfold rightP; simp; omega
    rw [fin]
    try simp
    try omega
theorem rright_at (w : World) (f : Fr) (vb : Value) (hs : ∃ bo cap, vb = .slice bo f.B.length cap) : Calls Try.prog 7 #[frAgg f vb] w fun e w' => e = .returned (.bool (rightN f)) ∧ Kept (fun _ => False) w w' := by
  obtain ⟨bo, cap, rfl⟩ := hs
  exact rrightP_at w f.lsn f.ep f.ix f.ct bo f.B.length cap _ rfl

theorem strN_row (B : List Nat) (hB : ∀ x ∈ B, x < 256) (cap j : Nat) (v : Value) (hj : (BV B)[j]? = some v) : (bytesRow (strN B) cap)[j]? = some v := by
  obtain ⟨hlt, he⟩ := List.getElem?_eq_some_iff.1 hj
  rw [BV_length] at hlt
  have hs : j < (strN B).data.size := by rw [strN_data]; simpa using hlt
  rw [bytesRow_at (strN B) cap j hs]
  have hd : (strN B).data[j] = UInt8.ofNat B[j] := by
    simp only [strN_data, List.getElem_toArray, List.getElem_map]
  rw [hd, ← he]
  have h := hB B[j] (List.getElem_mem _)
  have : (UInt8.ofNat B[j]).toNat = B[j] := by simp [UInt8.toNat_ofNat']; omega
  rw [this]
  simp [BV]
/-- A text's bytes, in new memory. -/
theorem run_bytesN (w : World) (B : List Nat) (hB : ∀ x ∈ B, x < 256) : ∃ w' cap, (convert 9 22 (.string (strN B))).run Try.prog w = .ok (.slice (some ⟨w.heap.size, 0, none⟩) B.length cap) w' ∧ Src w' (.slice (some ⟨w.heap.size, 0, none⟩) B.length cap) B ∧ Kept (fun _ => False) w w' := by
  have hrun := run_bytes_of_string (P := Try.prog) w 9 22 5 (strN B) Try.underlying9 Try.underlying22 Try.underlying5
  rw [strN_size] at hrun
  have hge := grownCap_ge w B.length 0 5
  refine ⟨_, _, hrun, ⟨_, _, rfl, hge, hB, fun _ => ⟨_, _, rfl, ?_⟩, fun h => by cases h⟩, ?_⟩
  · intro j v hj
    rw [Nat.zero_add]
    have := World.cell?_alloc_mark w.drew (bytesRow (strN B) (grownCap w B.length 0 5)) 5 ((bytesRow (strN B) (grownCap w B.length 0 5)).size, (bytesRow (strN B) (grownCap w B.length 0 5)).size + 1) j
    exact this.trans (strN_row B hB _ j v hj)
  · exact ((Kept.refl (fun _ => False) w).drew).trans (Kept.alloc _ w.drew _) (fun _ _ h => h)
theorem aw_bytesN {ops : Array Oper} {Q : Exit → Act → World → Prop} {a : Act} {w : World} {rest : List Oper} {dst : Option Tmp} {ty : TypeId} {pos : String} {aft : Array Edge} {x : Operand} {B : List Nat} (hB : ∀ x ∈ B, x < 256) (hx : a.eval x = .string (strN B))
    (h : ∀ w' cap, Src w' (.slice (some ⟨w.heap.size, 0, none⟩) B.length cap) B → Kept (fun _ => False) w w' → wpList Try.prog ops Q rest (a.put dst (.slice (some ⟨w.heap.size, 0, none⟩) B.length cap)) w') :
    wpList Try.prog ops Q (⟨dst, .convert 9 22 x, ty, pos, aft, none⟩ :: rest) a w := by
  obtain ⟨w', cap, hrun, hs, hk⟩ := run_bytesN w B hB
  exact wpList_run rfl (v := .slice (some ⟨w.heap.size, 0, none⟩) B.length cap) (by simp [execOp, hx, hrun]) (h w' cap hs hk)

set_option maxRecDepth 100000 in
set_option maxHeartbeats 8000000 in
theorem rput_at (w : World) (f : Fr) (vb : Value) (hs : Src w vb f.B) (hr : rightN f = true) : Calls Try.prog 8 #[frAgg f vb] w fun e w' => e = .returned (.string (strN (putN f))) ∧ Kept (fun _ => False) w w' := by
  obtain ⟨r1, r2, r3, r4, r5, r6, r7, r8⟩ := (rightN_iff f).1 hr
  obtain ⟨nl, hnl⟩ : ∃ n : Nat, f.lsn = n := ⟨f.lsn.toNat, by omega⟩
  obtain ⟨ne, hne⟩ : ∃ n : Nat, f.ep = n := ⟨f.ep.toNat, by omega⟩
  obtain ⟨ni, hni⟩ : ∃ n : Nat, f.ix = n := ⟨f.ix.toNat, by omega⟩
  obtain ⟨nc, hnc⟩ : ∃ n : Nat, f.ct = n := ⟨f.ct.toNat, by omega⟩
  have hhd : (((([183, 30] ++ numB nl 8) ++ numB ne 4) ++ numB ni 2) ++ numB nc 2) ++ textB f.B = headN f := by
    unfold headN
    rw [hnl, hne, hni, hnc]
    simp only [Int.toNat_natCast, List.append_assoc]
    rfl
  have b1 : nl ≤ 9223372036854775807 := by omega
  have b2 : ne ≤ 9223372036854775807 := by omega
  have b3 : ni ≤ 9223372036854775807 := by omega
  have b4 : nc ≤ 9223372036854775807 := by omega
  have Hhd := hide hhd
  have HS := hide hs
  have H5 := hide r5
  have hlt := hs.lt
  have Hlt := hide hlt
  unfold frAgg
  rw [hnl, hne, hni, hnc]
  clear hhd hs r1 r2 r3 r4 r5 r6 r7 r8 hlt hnl hne hni hnc hr
  go_enter Try.func8, Try.ntmps8
  go_wp2_with (first
    | ((with_reducible refine aw_box (t := 24) (v := .agg #[.int .i64 nl, .int .i64 ne, .int .i64 ni, .int .i64 nc, vb]) rfl ?_); intro w1 hb1 hk1 hz1)
    | fail)
  have HB1 : Hid (Blk w1 w.heap.size [.int .i64 nl, .int .i64 ne, .int .i64 ni, .int .i64 nc, vb] 24) := hide hb1
  have HK1 := hide hk1
  have HS1 := hide (HS.out.kept hk1)
  obtain ⟨b1, hb1e⟩ : ∃ b, b = w.heap.size := ⟨_, rfl⟩
  rw [← hb1e] at HB1 ⊢
  clear hb1 hk1 hz1 hb1e
  refine hold_frame (p := fun fr => Code.wp Try.prog _ _ fr _) ?_
  intro fr hfr
  have e1 : fr.eval (.tmp 1) = .pointer (some ⟨b1, 0, none⟩) := by rw [hfr.out]; rfl
  have hts : fr.tmps.size = 28 := by rw [hfr.out]; rfl
  refine region_S0 99 Try.mixed ?_
  intro w0 hkw hheap
  have HB := hide (hkw.blk HB1.out (fun h => h))
  have HS0 := hide (HS1.out.kept hkw)
  have HK0 := hide (HK1.out.trans hkw (fun _ _ h => h))
  clear HB1 HS1 HK1
  have hS0 : Kept (fun _ => False) w0 w0 := Kept.refl (fun _ => False) w0
  refine ⟨Kept (fun _ => False) w0, ?_⟩
  refine tkS 0 4 (v := .pointer (some ⟨b1, 0, none⟩)) hS0 rfl rfl (by kernel_rfl) (by kernel_rfl) (by kernel_rfl) (by kernel_rfl) (wanted_none rfl) (fun _ _ _ h => h) (fun U hU => r_fld24 (o := 0) (by decide) (by simp [eval_put_ne, eval_put_eq, size_put, hts, e1])) ?_
  refine tkS 1 5 (v := .int .i64 nl) hS0 rfl rfl (by kernel_rfl) (by kernel_rfl) (by kernel_rfl) (by kernel_rfl) (wanted_none rfl) (fun _ _ _ h => h) (fun U hU => r_ld3 (b := b1) (o := 0) (by simp [eval_put_ne, eval_put_eq, size_put, hts]) (((hS0).trans hU (fun _ _ h => h)).blk HB.out (fun h => h) |>.cell 0)) ?_
  refine tkS 4 8 (v := .pointer (some ⟨b1, 1, none⟩)) hS0 rfl rfl (by kernel_rfl) (by kernel_rfl) (by kernel_rfl) (by kernel_rfl) (wanted_none rfl) (fun _ _ _ h => h) (fun U hU => r_fld24 (o := 1) (by decide) (by simp [eval_put_ne, eval_put_eq, size_put, hts, e1])) ?_
  refine tkS 5 9 (v := .int .i64 ne) hS0 rfl rfl (by kernel_rfl) (by kernel_rfl) (by kernel_rfl) (by kernel_rfl) (wanted_none rfl) (fun _ _ _ h => h) (fun U hU => r_ld3 (b := b1) (o := 1) (by simp [eval_put_ne, eval_put_eq, size_put, hts]) (((hS0).trans hU (fun _ _ h => h)).blk HB.out (fun h => h) |>.cell 1)) ?_
  refine tkS 8 12 (v := .pointer (some ⟨b1, 2, none⟩)) hS0 rfl rfl (by kernel_rfl) (by kernel_rfl) (by kernel_rfl) (by kernel_rfl) (wanted_none rfl) (fun _ _ _ h => h) (fun U hU => r_fld24 (o := 2) (by decide) (by simp [eval_put_ne, eval_put_eq, size_put, hts, e1])) ?_
  refine tkS 9 13 (v := .int .i64 ni) hS0 rfl rfl (by kernel_rfl) (by kernel_rfl) (by kernel_rfl) (by kernel_rfl) (wanted_none rfl) (fun _ _ _ h => h) (fun U hU => r_ld3 (b := b1) (o := 2) (by simp [eval_put_ne, eval_put_eq, size_put, hts]) (((hS0).trans hU (fun _ _ h => h)).blk HB.out (fun h => h) |>.cell 2)) ?_
  refine tkS 12 16 (v := .pointer (some ⟨b1, 3, none⟩)) hS0 rfl rfl (by kernel_rfl) (by kernel_rfl) (by kernel_rfl) (by kernel_rfl) (wanted_none rfl) (fun _ _ _ h => h) (fun U hU => r_fld24 (o := 3) (by decide) (by simp [eval_put_ne, eval_put_eq, size_put, hts, e1])) ?_
  refine tkS 13 17 (v := .int .i64 nc) hS0 rfl rfl (by kernel_rfl) (by kernel_rfl) (by kernel_rfl) (by kernel_rfl) (wanted_none rfl) (fun _ _ _ h => h) (fun U hU => r_ld3 (b := b1) (o := 3) (by simp [eval_put_ne, eval_put_eq, size_put, hts]) (((hS0).trans hU (fun _ _ h => h)).blk HB.out (fun h => h) |>.cell 3)) ?_
  refine tkS 16 20 (v := .pointer (some ⟨b1, 4, none⟩)) hS0 rfl rfl (by kernel_rfl) (by kernel_rfl) (by kernel_rfl) (by kernel_rfl) (wanted_none rfl) (fun _ _ _ h => h) (fun U hU => r_fld24 (o := 4) (by decide) (by simp [eval_put_ne, eval_put_eq, size_put, hts, e1])) ?_
  refine tkS 17 21 (v := vb) hS0 rfl rfl (by kernel_rfl) (by kernel_rfl) (by kernel_rfl) (by kernel_rfl) (wanted_none rfl) (fun _ _ _ h => h) (fun U hU => r_ld22 (b := b1) (o := 4) (by simp [eval_put_ne, eval_put_eq, size_put, hts]) (((hS0).trans hU (fun _ _ h => h)).blk HB.out (fun h => h) |>.cell 4)) ?_
  refine oneCS 2 6 (by kernel_rfl) rfl rfl (wanted_none rfl) (r_call2 Try.func18 (by kernel_rfl) rfl rfl (by simp [eval_put_ne, eval_put_eq, size_put, hts]) rfl) (rnum_at 8 (by decide) w0 nl (by omega)) ?_
  rintro e v1 ⟨rfl, k1⟩
  refine ⟨_, rfl, k1, ?_⟩
  have kk1 : Kept (fun _ => False) w0 v1 := k1
  refine raiseM (S' := Kept (fun _ => False) v1) (fun U hU => k1.trans hU (fun _ _ h => h)) ?_
  have hs1 : (Kept (fun _ => False) v1) _ := Kept.refl _ _
  refine tkS 3 7 (v := .string (strN ([183, 30] ++ numB nl 8))) hs1 rfl rfl (by kernel_rfl) (by kernel_rfl) (by kernel_rfl) (by kernel_rfl) (wanted_none rfl) (fun _ _ _ h => h) (fun U hU => r_add9 (A := [183, 30]) (B := numB nl 8) (by simp only [List.length_append, List.length_cons, List.length_nil, numB_length, textB_length]; have := H5.out; omega) rfl (by simp [eval_put_ne, eval_put_eq, size_put, hts])) ?_
  refine oneCS 6 10 (by kernel_rfl) rfl rfl (wanted_none rfl) (r_call2 Try.func18 (by kernel_rfl) rfl rfl (by simp [eval_put_ne, eval_put_eq, size_put, hts]) rfl) (rnum_at 4 (by decide) v1 ne (by omega)) ?_
  rintro e v2 ⟨rfl, k2⟩
  refine ⟨_, rfl, k2, ?_⟩
  have kk2 : Kept (fun _ => False) w0 v2 := kk1.trans k2 (fun _ _ h => h)
  refine raiseM (S' := Kept (fun _ => False) v2) (fun U hU => k2.trans hU (fun _ _ h => h)) ?_
  have hs2 : (Kept (fun _ => False) v2) _ := Kept.refl _ _
  refine tkS 7 11 (v := .string (strN (([183, 30] ++ numB nl 8) ++ numB ne 4))) hs2 rfl rfl (by kernel_rfl) (by kernel_rfl) (by kernel_rfl) (by kernel_rfl) (wanted_none rfl) (fun _ _ _ h => h) (fun U hU => r_add9 (A := ([183, 30] ++ numB nl 8)) (B := numB ne 4) (by simp only [List.length_append, List.length_cons, List.length_nil, numB_length, textB_length]; have := H5.out; omega) (by simp [eval_put_ne, eval_put_eq, size_put, hts]) (by simp [eval_put_ne, eval_put_eq, size_put, hts])) ?_
  refine oneCS 10 14 (by kernel_rfl) rfl rfl (wanted_none rfl) (r_call2 Try.func18 (by kernel_rfl) rfl rfl (by simp [eval_put_ne, eval_put_eq, size_put, hts]) rfl) (rnum_at 2 (by decide) v2 ni (by omega)) ?_
  rintro e v3 ⟨rfl, k3⟩
  refine ⟨_, rfl, k3, ?_⟩
  have kk3 : Kept (fun _ => False) w0 v3 := kk2.trans k3 (fun _ _ h => h)
  refine raiseM (S' := Kept (fun _ => False) v3) (fun U hU => k3.trans hU (fun _ _ h => h)) ?_
  have hs3 : (Kept (fun _ => False) v3) _ := Kept.refl _ _
  refine tkS 11 15 (v := .string (strN ((([183, 30] ++ numB nl 8) ++ numB ne 4) ++ numB ni 2))) hs3 rfl rfl (by kernel_rfl) (by kernel_rfl) (by kernel_rfl) (by kernel_rfl) (wanted_none rfl) (fun _ _ _ h => h) (fun U hU => r_add9 (A := (([183, 30] ++ numB nl 8) ++ numB ne 4)) (B := numB ni 2) (by simp only [List.length_append, List.length_cons, List.length_nil, numB_length, textB_length]; have := H5.out; omega) (by simp [eval_put_ne, eval_put_eq, size_put, hts]) (by simp [eval_put_ne, eval_put_eq, size_put, hts])) ?_
  refine oneCS 14 18 (by kernel_rfl) rfl rfl (wanted_none rfl) (r_call2 Try.func18 (by kernel_rfl) rfl rfl (by simp [eval_put_ne, eval_put_eq, size_put, hts]) rfl) (rnum_at 2 (by decide) v3 nc (by omega)) ?_
  rintro e v4 ⟨rfl, k4⟩
  refine ⟨_, rfl, k4, ?_⟩
  have kk4 : Kept (fun _ => False) w0 v4 := kk3.trans k4 (fun _ _ h => h)
  refine raiseM (S' := Kept (fun _ => False) v4) (fun U hU => k4.trans hU (fun _ _ h => h)) ?_
  have hs4 : (Kept (fun _ => False) v4) _ := Kept.refl _ _
  refine tkS 15 19 (v := .string (strN (((([183, 30] ++ numB nl 8) ++ numB ne 4) ++ numB ni 2) ++ numB nc 2))) hs4 rfl rfl (by kernel_rfl) (by kernel_rfl) (by kernel_rfl) (by kernel_rfl) (wanted_none rfl) (fun _ _ _ h => h) (fun U hU => r_add9 (A := ((([183, 30] ++ numB nl 8) ++ numB ne 4) ++ numB ni 2)) (B := numB nc 2) (by simp only [List.length_append, List.length_cons, List.length_nil, numB_length, textB_length]; have := H5.out; omega) (by simp [eval_put_ne, eval_put_eq, size_put, hts]) (by simp [eval_put_ne, eval_put_eq, size_put, hts])) ?_
  refine oneCS 18 22 (by kernel_rfl) rfl rfl (wanted_none rfl) (r_call1 Try.func19 (by kernel_rfl) rfl rfl (by simp [eval_put_ne, eval_put_eq, size_put, hts])) (rtext_at v4 vb f.B (HS0.out.kept kk4) (by have := H5.out; omega)) ?_
  rintro e v5 ⟨rfl, k5⟩
  refine ⟨_, rfl, k5, ?_⟩
  have kk5 := kk4.trans k5 (fun _ _ h => h)
  refine raiseM (S' := Kept (fun _ => False) v5) (fun U hU => k5.trans hU (fun _ _ h => h)) ?_
  have hs5 : (Kept (fun _ => False) v5) _ := Kept.refl _ _
  refine tkS 19 23 (v := .string (strN (headN f))) hs5 rfl rfl (by kernel_rfl) (by kernel_rfl) (by kernel_rfl) (by kernel_rfl) (wanted_none rfl) (fun _ _ _ h => h) (fun U hU => (r_add9 (A := (((([183, 30] ++ numB nl 8) ++ numB ne 4) ++ numB ni 2) ++ numB nc 2)) (B := textB f.B) (by simp only [List.length_append, List.length_cons, List.length_nil, numB_length, textB_length]; have := H5.out; omega) (by simp [eval_put_ne, eval_put_eq, size_put, hts]) (by simp [eval_put_ne, eval_put_eq, size_put, hts])).trans (by rw [Hhd.out])) ?_
  refine tkS 20 3 (v := .string (strN (headN f))) hs5 rfl rfl (by kernel_rfl) (by kernel_rfl) (by kernel_rfl) (by kernel_rfl) (wanted_none rfl) (fun _ _ _ h => h) (fun U hU => r_assign (by simp [eval_put_ne, eval_put_eq, size_put, hts])) ?_
  refine doneS (by kernel_rfl) ?_
  rw [hfr.out]
  clear hfr e1 hts
  simp only [put_lit, put_none, List.set_cons_succ, List.set_cons_zero]
  have HK5 := hide (HK0.out.trans kk5 (fun _ _ h => h))
  clear hS0 hs1 hs2 hs3 hs4 hs5 k1 k2 k3 k4 k5 kk1 kk2 kk3 kk4 kk5 hkw hheap HB HS0 HK0
  have hhl := headN_length f
  go_wp2_with fail
  refine (rpad_at v5 (headN f) (by have := H5.out; omega) 64 (by decide)).mono ?_
  rintro e v6 ⟨rfl, rfl⟩
  have HPl := hide (pad64_lt f H5.out Hlt.out)
  go_wp2_with (with_reducible refine stop_convert 9 22 ?_)
  refine hide ?_
  refine aw_bytesN HPl.out rfl ?_
  intro v7 cap hs7 hk7
  have HM := hide (refMark_at v7 _ _ hs7 (by rw [pad64_length f H5.out]; decide))
  have HK7 := hide (HK5.out.trans hk7 (fun _ _ h => h))
  clear hs7 hk7 HK5 hhl
  rw [pad64_length f H5.out] at HM ⊢
  go_wp2_with fail
  refine HM.out.mono ?_
  rintro e v8 ⟨rfl, hk8⟩
  go_wp2
  go_ret
  exact ⟨rfl, HK7.out.trans hk8 (fun _ _ h => h)⟩
end Go.Proofs.Ytjkggmjcaedggaa
