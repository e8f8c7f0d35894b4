/-
  FrameUnlike, walked.
-/
import Derived.Test.YtapoagpkjngjpaaFrGet
import Derived.Test.YtapoagpkjngjpaaPRef
import Derived.Laws.IdiomStrings
import Derived.Test.YtapoagpkjngjpaaFrRefM
namespace Go.Proofs.Ytapoagpkjngjpaa
open Go.RowKit Go.Shelf
set_option linter.unusedSimpArgs false
set_option linter.unusedVariables false
set_option maxRecDepth 100000

section
variable {ρ : Operand → Value} {w : World} {dst : Option Tmp} {ty : TypeId} {pos : String} {aft : Array Edge} {gd : Option (Nat × Bool)} {x y : Operand}
theorem r_fld24 {b : Nat} (o : Nat) (ho : o < 5) (hx : ρ x = .pointer (some ⟨b, 0, none⟩)) : (execOp ρ ⟨dst, .fieldAddr 51 x o, ty, pos, aft, gd⟩).run Try.prog w = .ok (.value (.pointer (some ⟨b, o, none⟩))) w := by
  match o, ho with
  | 0, _ => go_simp
  | 1, _ => go_simp
  | 2, _ => go_simp
  | 3, _ => go_simp
  | 4, _ => go_simp
theorem r_ld22 {b o : Nat} {v : Value} (hx : ρ x = .pointer (some ⟨b, o, none⟩)) (hc : w.cell? ⟨b, o, none⟩ = some v) : (execOp ρ ⟨dst, .load 24 x, ty, pos, aft, gd⟩).run Try.prog w = .ok (.value v) w := by
  go_simp
theorem r_eql28 {p q : Int} (hx : ρ x = .int .i64 p) (hy : ρ y = .int .i64 q) : (execOp ρ ⟨dst, .binOp .eql 28 x y 28, ty, pos, aft, gd⟩).run Try.prog w = .ok (.value (.bool (decide (p = q)))) w := by
  go_simp
  rw [Bool.eq_iff_iff]; simp
end
theorem put_src (w : World) (f : Fr) (vb : Value) (hs : Src w vb f.B) (hr : rightN f = true) :
    Calls Try.prog 30 #[frAgg f vb] w fun e w' => ∃ g, e = .returned (.slice (some ⟨g, 0, none⟩) 64 64) ∧ Src w' (.slice (some ⟨g, 0, none⟩) 64 64) (putN f) ∧ Kept (fun _ => False) w w' := by
  have h5 := ((rightN_iff f).1 hr).2.2.2.2.1
  refine (put_at w f vb hs hr).mono ?_
  rintro e w1 ⟨g, rfl, hb, hg, hk⟩
  refine ⟨g, rfl, ?_, hk⟩
  have hpl := putN_length f h5
  have := hb.src (B := putN f) (cap := 64) (by rw [hpl, List.take_of_length_le (by rw [BV_length, hpl]; exact Nat.le_refl _)]) (putN_lt _ h5 hs.lt) (by rw [hpl]; exact Nat.le_refl _)
  rw [hpl] at this
  exact this

end Go.Proofs.Ytapoagpkjngjpaa

/-
  Right and Put, of the reference.
-/
namespace Go.Proofs.Ytapoagpkjngjpaa
open Go.RowKit Go.Shelf
set_option linter.unusedSimpArgs false
set_option linter.unusedVariables false
set_option maxRecDepth 100000

set_option maxRecDepth 100000 in
set_option maxHeartbeats 8000000 in
theorem rrightP_at (w : World) (l e i c : Int) (bo : Option Addr) (len cap : Nat) (b : Bool) (hb : rightP l e i c len = b) :
    Calls Try.prog 48 #[.agg #[.int .i64 l, .int .i64 e, .int .i64 i, .int .i64 c, .slice bo len cap]] w fun e w' => e = .returned (.bool b) ∧ Kept (fun _ => False) w w' := by
  have Hb : Hid (rightP l e i c len = b) := hide hb
  clear hb
  by_cases h0 : 0 ≤ l
  · have g0 : ¬ l < 0 := by omega
    by_cases h1 : l ≤ 4611686018427387903
    · have g1 : ¬ 4611686018427387903 < l := by omega
      by_cases h2 : 0 ≤ e
      · have g2 : ¬ e < 0 := by omega
        by_cases h3 : e ≤ 4294967295
        · have g3 : ¬ 4294967295 < e := by omega
          by_cases h4 : 1 ≤ c
          · have g4 : ¬ c < 1 := by omega
            by_cases h5 : c ≤ 65535
            · have g5 : ¬ 65535 < c := by omega
              by_cases h6 : 0 ≤ i
              · have g6 : ¬ i < 0 := by omega
                by_cases h7 : i < c
                · have g7 : ¬ c ≤ i := by omega
                  by_cases h8 : len ≤ 40
                  · have g8 : ¬ 40 < len := by omega
                    go_enter Try.func48, Try.ntmps48
                    go_wp2_with (first
                      | ((with_reducible refine aw_box (t := 51) (v := .agg #[.int .i64 l, .int .i64 e, .int .i64 i, .int .i64 c, .slice bo len cap]) rfl ?_); intro w1 hb1 hk1 hz1; have c0 : w1.cell? ⟨w.heap.size, 0, none⟩ = some (.int .i64 l) := hb1.cell 0; have c1 : w1.cell? ⟨w.heap.size, 1, none⟩ = some (.int .i64 e) := hb1.cell 1; have c2 : w1.cell? ⟨w.heap.size, 2, none⟩ = some (.int .i64 i) := hb1.cell 2; have c3 : w1.cell? ⟨w.heap.size, 3, none⟩ = some (.int .i64 c) := hb1.cell 3; have c4 : w1.cell? ⟨w.heap.size, 4, none⟩ = some (.slice bo len cap) := hb1.cell 4; have HK := hide hk1; clear hz1 hb1 hk1)
                      | fail)
                    go_ret
                    refine ⟨?_, HK.out⟩
                    rw [← Hb.out]
                    have fin : rightP l e i c len = true := by unfold rightP; simp; omega
                    rw [fin]
                    try simp
                    try omega
                  · have g8 : 40 < len := by omega
                    go_enter Try.func48, Try.ntmps48
                    go_wp2_with (first
                      | ((with_reducible refine aw_box (t := 51) (v := .agg #[.int .i64 l, .int .i64 e, .int .i64 i, .int .i64 c, .slice bo len cap]) rfl ?_); intro w1 hb1 hk1 hz1; have c0 : w1.cell? ⟨w.heap.size, 0, none⟩ = some (.int .i64 l) := hb1.cell 0; have c1 : w1.cell? ⟨w.heap.size, 1, none⟩ = some (.int .i64 e) := hb1.cell 1; have c2 : w1.cell? ⟨w.heap.size, 2, none⟩ = some (.int .i64 i) := hb1.cell 2; have c3 : w1.cell? ⟨w.heap.size, 3, none⟩ = some (.int .i64 c) := hb1.cell 3; have c4 : w1.cell? ⟨w.heap.size, 4, none⟩ = some (.slice bo len cap) := hb1.cell 4; have HK := hide hk1; clear hz1 hb1 hk1)
                      | fail)
                    go_ret
                    refine ⟨?_, HK.out⟩
                    rw [← Hb.out]
                    have fin : rightP l e i c len = false := by unfold rightP; simp; omega
                    rw [fin]
                    try simp
                    try omega
                · have g7 : ¬ i < c := by omega
                  go_enter Try.func48, Try.ntmps48
                  go_wp2_with (first
                    | ((with_reducible refine aw_box (t := 51) (v := .agg #[.int .i64 l, .int .i64 e, .int .i64 i, .int .i64 c, .slice bo len cap]) rfl ?_); intro w1 hb1 hk1 hz1; have c0 : w1.cell? ⟨w.heap.size, 0, none⟩ = some (.int .i64 l) := hb1.cell 0; have c1 : w1.cell? ⟨w.heap.size, 1, none⟩ = some (.int .i64 e) := hb1.cell 1; have c2 : w1.cell? ⟨w.heap.size, 2, none⟩ = some (.int .i64 i) := hb1.cell 2; have c3 : w1.cell? ⟨w.heap.size, 3, none⟩ = some (.int .i64 c) := hb1.cell 3; have c4 : w1.cell? ⟨w.heap.size, 4, none⟩ = some (.slice bo len cap) := hb1.cell 4; have HK := hide hk1; clear hz1 hb1 hk1)
                    | fail)
                  go_ret
                  refine ⟨?_, HK.out⟩
                  rw [← Hb.out]
                  have fin : rightP l e i c len = false := by unfold rightP; simp; omega
                  rw [fin]
                  try simp
                  try omega
              · have g6 : i < 0 := by omega
                go_enter Try.func48, Try.ntmps48
                go_wp2_with (first
                  | ((with_reducible refine aw_box (t := 51) (v := .agg #[.int .i64 l, .int .i64 e, .int .i64 i, .int .i64 c, .slice bo len cap]) rfl ?_); intro w1 hb1 hk1 hz1; have c0 : w1.cell? ⟨w.heap.size, 0, none⟩ = some (.int .i64 l) := hb1.cell 0; have c1 : w1.cell? ⟨w.heap.size, 1, none⟩ = some (.int .i64 e) := hb1.cell 1; have c2 : w1.cell? ⟨w.heap.size, 2, none⟩ = some (.int .i64 i) := hb1.cell 2; have c3 : w1.cell? ⟨w.heap.size, 3, none⟩ = some (.int .i64 c) := hb1.cell 3; have c4 : w1.cell? ⟨w.heap.size, 4, none⟩ = some (.slice bo len cap) := hb1.cell 4; have HK := hide hk1; clear hz1 hb1 hk1)
                  | fail)
                go_ret
                refine ⟨?_, HK.out⟩
                rw [← Hb.out]
                have fin : rightP l e i c len = false := by unfold rightP; simp; omega
                rw [fin]
                try simp
                try omega
            · have g5 : 65535 < c := by omega
              go_enter Try.func48, Try.ntmps48
              go_wp2_with (first
                | ((with_reducible refine aw_box (t := 51) (v := .agg #[.int .i64 l, .int .i64 e, .int .i64 i, .int .i64 c, .slice bo len cap]) rfl ?_); intro w1 hb1 hk1 hz1; have c0 : w1.cell? ⟨w.heap.size, 0, none⟩ = some (.int .i64 l) := hb1.cell 0; have c1 : w1.cell? ⟨w.heap.size, 1, none⟩ = some (.int .i64 e) := hb1.cell 1; have c2 : w1.cell? ⟨w.heap.size, 2, none⟩ = some (.int .i64 i) := hb1.cell 2; have c3 : w1.cell? ⟨w.heap.size, 3, none⟩ = some (.int .i64 c) := hb1.cell 3; have c4 : w1.cell? ⟨w.heap.size, 4, none⟩ = some (.slice bo len cap) := hb1.cell 4; have HK := hide hk1; clear hz1 hb1 hk1)
                | fail)
              go_ret
              refine ⟨?_, HK.out⟩
              rw [← Hb.out]
              have fin : rightP l e i c len = false := by unfold rightP; simp; omega
              rw [fin]
              try simp
              try omega
          · have g4 : c < 1 := by omega
            go_enter Try.func48, Try.ntmps48
            go_wp2_with (first
              | ((with_reducible refine aw_box (t := 51) (v := .agg #[.int .i64 l, .int .i64 e, .int .i64 i, .int .i64 c, .slice bo len cap]) rfl ?_); intro w1 hb1 hk1 hz1; have c0 : w1.cell? ⟨w.heap.size, 0, none⟩ = some (.int .i64 l) := hb1.cell 0; have c1 : w1.cell? ⟨w.heap.size, 1, none⟩ = some (.int .i64 e) := hb1.cell 1; have c2 : w1.cell? ⟨w.heap.size, 2, none⟩ = some (.int .i64 i) := hb1.cell 2; have c3 : w1.cell? ⟨w.heap.size, 3, none⟩ = some (.int .i64 c) := hb1.cell 3; have c4 : w1.cell? ⟨w.heap.size, 4, none⟩ = some (.slice bo len cap) := hb1.cell 4; have HK := hide hk1; clear hz1 hb1 hk1)
              | fail)
            go_ret
            refine ⟨?_, HK.out⟩
            rw [← Hb.out]
            have fin : rightP l e i c len = false := by unfold rightP; simp; omega
            rw [fin]
            try simp
            try omega
        · have g3 : 4294967295 < e := by omega
          go_enter Try.func48, Try.ntmps48
          go_wp2_with (first
            | ((with_reducible refine aw_box (t := 51) (v := .agg #[.int .i64 l, .int .i64 e, .int .i64 i, .int .i64 c, .slice bo len cap]) rfl ?_); intro w1 hb1 hk1 hz1; have c0 : w1.cell? ⟨w.heap.size, 0, none⟩ = some (.int .i64 l) := hb1.cell 0; have c1 : w1.cell? ⟨w.heap.size, 1, none⟩ = some (.int .i64 e) := hb1.cell 1; have c2 : w1.cell? ⟨w.heap.size, 2, none⟩ = some (.int .i64 i) := hb1.cell 2; have c3 : w1.cell? ⟨w.heap.size, 3, none⟩ = some (.int .i64 c) := hb1.cell 3; have c4 : w1.cell? ⟨w.heap.size, 4, none⟩ = some (.slice bo len cap) := hb1.cell 4; have HK := hide hk1; clear hz1 hb1 hk1)
            | fail)
          go_ret
          refine ⟨?_, HK.out⟩
          rw [← Hb.out]
          have fin : rightP l e i c len = false := by unfold rightP; simp; omega
          rw [fin]
          try simp
          try omega
      · have g2 : e < 0 := by omega
        go_enter Try.func48, Try.ntmps48
        go_wp2_with (first
          | ((with_reducible refine aw_box (t := 51) (v := .agg #[.int .i64 l, .int .i64 e, .int .i64 i, .int .i64 c, .slice bo len cap]) rfl ?_); intro w1 hb1 hk1 hz1; have c0 : w1.cell? ⟨w.heap.size, 0, none⟩ = some (.int .i64 l) := hb1.cell 0; have c1 : w1.cell? ⟨w.heap.size, 1, none⟩ = some (.int .i64 e) := hb1.cell 1; have c2 : w1.cell? ⟨w.heap.size, 2, none⟩ = some (.int .i64 i) := hb1.cell 2; have c3 : w1.cell? ⟨w.heap.size, 3, none⟩ = some (.int .i64 c) := hb1.cell 3; have c4 : w1.cell? ⟨w.heap.size, 4, none⟩ = some (.slice bo len cap) := hb1.cell 4; have HK := hide hk1; clear hz1 hb1 hk1)
          | fail)
        go_ret
        refine ⟨?_, HK.out⟩
        rw [← Hb.out]
        have fin : rightP l e i c len = false := by unfold rightP; simp; omega
        rw [fin]
        try simp
        try omega
    · have g1 : 4611686018427387903 < l := by omega
      go_enter Try.func48, Try.ntmps48
      go_wp2_with (first
        | ((with_reducible refine aw_box (t := 51) (v := .agg #[.int .i64 l, .int .i64 e, .int .i64 i, .int .i64 c, .slice bo len cap]) rfl ?_); intro w1 hb1 hk1 hz1; have c0 : w1.cell? ⟨w.heap.size, 0, none⟩ = some (.int .i64 l) := hb1.cell 0; have c1 : w1.cell? ⟨w.heap.size, 1, none⟩ = some (.int .i64 e) := hb1.cell 1; have c2 : w1.cell? ⟨w.heap.size, 2, none⟩ = some (.int .i64 i) := hb1.cell 2; have c3 : w1.cell? ⟨w.heap.size, 3, none⟩ = some (.int .i64 c) := hb1.cell 3; have c4 : w1.cell? ⟨w.heap.size, 4, none⟩ = some (.slice bo len cap) := hb1.cell 4; have HK := hide hk1; clear hz1 hb1 hk1)
        | fail)
      go_ret
      refine ⟨?_, HK.out⟩
      rw [← Hb.out]
      have fin : rightP l e i c len = false := by unfold rightP; simp; omega
      rw [fin]
      try simp
      try omega
  · have g0 : l < 0 := by omega
    go_enter Try.func48, Try.ntmps48
    go_wp2_with (first
      | ((with_reducible refine aw_box (t := 51) (v := .agg #[.int .i64 l, .int .i64 e, .int .i64 i, .int .i64 c, .slice bo len cap]) rfl ?_); intro w1 hb1 hk1 hz1; have c0 : w1.cell? ⟨w.heap.size, 0, none⟩ = some (.int .i64 l) := hb1.cell 0; have c1 : w1.cell? ⟨w.heap.size, 1, none⟩ = some (.int .i64 e) := hb1.cell 1; have c2 : w1.cell? ⟨w.heap.size, 2, none⟩ = some (.int .i64 i) := hb1.cell 2; have c3 : w1.cell? ⟨w.heap.size, 3, none⟩ = some (.int .i64 c) := hb1.cell 3; have c4 : w1.cell? ⟨w.heap.size, 4, none⟩ = some (.slice bo len cap) := hb1.cell 4; have HK := hide hk1; clear hz1 hb1 hk1)
      | fail)
    go_ret
    refine ⟨?_, HK.out⟩
    rw [← Hb.out]
    have fin : rightP l e i c len = false := by unfold rightP; simp; omega
    rw [fin]
    try simp
    try omega
theorem rright_at (w : World) (f : Fr) (vb : Value) (hs : ∃ bo cap, vb = .slice bo f.B.length cap) : Calls Try.prog 48 #[frAgg f vb] w fun e w' => e = .returned (.bool (rightN f)) ∧ Kept (fun _ => False) w w' := by
  obtain ⟨bo, cap, rfl⟩ := hs
  exact rrightP_at w f.lsn f.ep f.ix f.ct bo f.B.length cap _ rfl

theorem strN_row (B : List Nat) (hB : ∀ x ∈ B, x < 256) (cap j : Nat) (v : Value) (hj : (BV B)[j]? = some v) : (bytesRow (strN B) cap)[j]? = some v := by
  obtain ⟨hlt, he⟩ := List.getElem?_eq_some_iff.1 hj
  rw [BV_length] at hlt
  have hs : j < (strN B).data.size := by rw [strN_data]; simpa using hlt
  rw [bytesRow_at (strN B) cap j hs]
  have hd : (strN B).data[j] = UInt8.ofNat B[j] := by
    simp only [strN_data, List.getElem_toArray, List.getElem_map]
  rw [hd, ← he]
  have h := hB B[j] (List.getElem_mem _)
  have : (UInt8.ofNat B[j]).toNat = B[j] := by simp [UInt8.toNat_ofNat']; omega
  rw [this]
  simp [BV]
/-- A text's bytes, in new memory. -/
theorem run_bytesN (w : World) (B : List Nat) (hB : ∀ x ∈ B, x < 256) : ∃ w' cap, (convert 9 24 (.string (strN B))).run Try.prog w = .ok (.slice (some ⟨w.heap.size, 0, none⟩) B.length cap) w' ∧ Src w' (.slice (some ⟨w.heap.size, 0, none⟩) B.length cap) B ∧ Kept (fun _ => False) w w' := by
  have hrun := run_bytes_of_string (P := Try.prog) w 9 24 5 (strN B) Try.underlying9 Try.underlying24 Try.underlying5
  rw [strN_size] at hrun
  have hge := grownCap_ge w B.length 0 5
  refine ⟨_, _, hrun, ⟨_, _, rfl, hge, hB, fun _ => ⟨_, _, rfl, ?_⟩, fun h => by cases h⟩, ?_⟩
  · intro j v hj
    rw [Nat.zero_add]
    have := World.cell?_alloc_mark w.drew (bytesRow (strN B) (grownCap w B.length 0 5)) 5 ((bytesRow (strN B) (grownCap w B.length 0 5)).size, (bytesRow (strN B) (grownCap w B.length 0 5)).size + 1) j
    exact this.trans (strN_row B hB _ j v hj)
  · exact ((Kept.refl (fun _ => False) w).drew).trans (Kept.alloc _ w.drew _) (fun _ _ h => h)
theorem aw_bytesN {ops : Array Oper} {Q : Exit → Act → World → Prop} {a : Act} {w : World} {rest : List Oper} {dst : Option Tmp} {ty : TypeId} {pos : String} {aft : Array Edge} {x : Operand} {B : List Nat} (hB : ∀ x ∈ B, x < 256) (hx : a.eval x = .string (strN B))
    (h : ∀ w' cap, Src w' (.slice (some ⟨w.heap.size, 0, none⟩) B.length cap) B → Kept (fun _ => False) w w' → wpList Try.prog ops Q rest (a.put dst (.slice (some ⟨w.heap.size, 0, none⟩) B.length cap)) w') :
    wpList Try.prog ops Q (⟨dst, .convert 9 24 x, ty, pos, aft, none⟩ :: rest) a w := by
  obtain ⟨w', cap, hrun, hs, hk⟩ := run_bytesN w B hB
  exact wpList_run rfl (v := .slice (some ⟨w.heap.size, 0, none⟩) B.length cap) (by simp [execOp, hx, hrun]) (h w' cap hs hk)

set_option maxRecDepth 100000 in
set_option maxHeartbeats 8000000 in
theorem rput_at (w : World) (f : Fr) (vb : Value) (hs : Src w vb f.B) (hr : rightN f = true) : Calls Try.prog 20 #[frAgg f vb] w fun e w' => e = .returned (.string (strN (putN f))) ∧ Kept (fun _ => False) w w' := by
  obtain ⟨r1, r2, r3, r4, r5, r6, r7, r8⟩ := (rightN_iff f).1 hr
  obtain ⟨nl, hnl⟩ : ∃ n : Nat, f.lsn = n := ⟨f.lsn.toNat, by omega⟩
  obtain ⟨ne, hne⟩ : ∃ n : Nat, f.ep = n := ⟨f.ep.toNat, by omega⟩
  obtain ⟨ni, hni⟩ : ∃ n : Nat, f.ix = n := ⟨f.ix.toNat, by omega⟩
  obtain ⟨nc, hnc⟩ : ∃ n : Nat, f.ct = n := ⟨f.ct.toNat, by omega⟩
  have hhd : (((([183, 30] ++ numB nl 8) ++ numB ne 4) ++ numB ni 2) ++ numB nc 2) ++ textB f.B = headN f := by
    unfold headN
    rw [hnl, hne, hni, hnc]
    simp only [Int.toNat_natCast, List.append_assoc]
    rfl
  have b1 : nl ≤ 9223372036854775807 := by omega
  have b2 : ne ≤ 9223372036854775807 := by omega
  have b3 : ni ≤ 9223372036854775807 := by omega
  have b4 : nc ≤ 9223372036854775807 := by omega
  have Hhd := hide hhd
  have HS := hide hs
  have H5 := hide r5
  have hlt := hs.lt
  have Hlt := hide hlt
  unfold frAgg
  rw [hnl, hne, hni, hnc]
  clear hhd hs r1 r2 r3 r4 r5 r6 r7 r8 hlt hnl hne hni hnc hr
  go_enter Try.func20, Try.ntmps20
  go_wp2_with (first
    | ((with_reducible refine aw_box (t := 51) (v := .agg #[.int .i64 nl, .int .i64 ne, .int .i64 ni, .int .i64 nc, vb]) rfl ?_); intro w1 hb1 hk1 hz1)
    | fail)
  have HB1 : Hid (Blk w1 w.heap.size [.int .i64 nl, .int .i64 ne, .int .i64 ni, .int .i64 nc, vb] 51) := hide hb1
  have HK1 := hide hk1
  have HS1 := hide (HS.out.kept hk1)
  obtain ⟨b1, hb1e⟩ : ∃ b, b = w.heap.size := ⟨_, rfl⟩
  rw [← hb1e] at HB1 ⊢
  clear hb1 hk1 hz1 hb1e
  refine hold_frame (p := fun fr => Code.wp Try.prog _ _ fr _) ?_
  intro fr hfr
  have e1 : fr.eval (.tmp 1) = .pointer (some ⟨b1, 0, none⟩) := by rw [hfr.out]; rfl
  have hts : fr.tmps.size = 28 := by rw [hfr.out]; rfl
  refine region_S0 99 Try.mixed ?_
  intro w0 hkw hheap
  have HB := hide (hkw.blk HB1.out (fun h => h))
  have HS0 := hide (HS1.out.kept hkw)
  have HK0 := hide (HK1.out.trans hkw (fun _ _ h => h))
  clear HB1 HS1 HK1
  have hS0 : Kept (fun _ => False) w0 w0 := Kept.refl (fun _ => False) w0
  refine ⟨Kept (fun _ => False) w0, ?_⟩
  refine tkS 0 4 (v := .pointer (some ⟨b1, 0, none⟩)) hS0 rfl rfl (by kernel_rfl) (by kernel_rfl) (by kernel_rfl) (by kernel_rfl) (wanted_none rfl) (fun _ _ _ h => h) (fun U hU => r_fld24 (o := 0) (by decide) (by simp [eval_put_ne, eval_put_eq, size_put, hts, e1])) ?_
  refine tkS 1 5 (v := .int .i64 nl) hS0 rfl rfl (by kernel_rfl) (by kernel_rfl) (by kernel_rfl) (by kernel_rfl) (wanted_none rfl) (fun _ _ _ h => h) (fun U hU => r_ld3 (b := b1) (o := 0) (by simp [eval_put_ne, eval_put_eq, size_put, hts]) (((hS0).trans hU (fun _ _ h => h)).blk HB.out (fun h => h) |>.cell 0)) ?_
  refine tkS 4 8 (v := .pointer (some ⟨b1, 1, none⟩)) hS0 rfl rfl (by kernel_rfl) (by kernel_rfl) (by kernel_rfl) (by kernel_rfl) (wanted_none rfl) (fun _ _ _ h => h) (fun U hU => r_fld24 (o := 1) (by decide) (by simp [eval_put_ne, eval_put_eq, size_put, hts, e1])) ?_
  refine tkS 5 9 (v := .int .i64 ne) hS0 rfl rfl (by kernel_rfl) (by kernel_rfl) (by kernel_rfl) (by kernel_rfl) (wanted_none rfl) (fun _ _ _ h => h) (fun U hU => r_ld3 (b := b1) (o := 1) (by simp [eval_put_ne, eval_put_eq, size_put, hts]) (((hS0).trans hU (fun _ _ h => h)).blk HB.out (fun h => h) |>.cell 1)) ?_
  refine tkS 8 12 (v := .pointer (some ⟨b1, 2, none⟩)) hS0 rfl rfl (by kernel_rfl) (by kernel_rfl) (by kernel_rfl) (by kernel_rfl) (wanted_none rfl) (fun _ _ _ h => h) (fun U hU => r_fld24 (o := 2) (by decide) (by simp [eval_put_ne, eval_put_eq, size_put, hts, e1])) ?_
  refine tkS 9 13 (v := .int .i64 ni) hS0 rfl rfl (by kernel_rfl) (by kernel_rfl) (by kernel_rfl) (by kernel_rfl) (wanted_none rfl) (fun _ _ _ h => h) (fun U hU => r_ld3 (b := b1) (o := 2) (by simp [eval_put_ne, eval_put_eq, size_put, hts]) (((hS0).trans hU (fun _ _ h => h)).blk HB.out (fun h => h) |>.cell 2)) ?_
  refine tkS 12 16 (v := .pointer (some ⟨b1, 3, none⟩)) hS0 rfl rfl (by kernel_rfl) (by kernel_rfl) (by kernel_rfl) (by kernel_rfl) (wanted_none rfl) (fun _ _ _ h => h) (fun U hU => r_fld24 (o := 3) (by decide) (by simp [eval_put_ne, eval_put_eq, size_put, hts, e1])) ?_
  refine tkS 13 17 (v := .int .i64 nc) hS0 rfl rfl (by kernel_rfl) (by kernel_rfl) (by kernel_rfl) (by kernel_rfl) (wanted_none rfl) (fun _ _ _ h => h) (fun U hU => r_ld3 (b := b1) (o := 3) (by simp [eval_put_ne, eval_put_eq, size_put, hts]) (((hS0).trans hU (fun _ _ h => h)).blk HB.out (fun h => h) |>.cell 3)) ?_
  refine tkS 16 20 (v := .pointer (some ⟨b1, 4, none⟩)) hS0 rfl rfl (by kernel_rfl) (by kernel_rfl) (by kernel_rfl) (by kernel_rfl) (wanted_none rfl) (fun _ _ _ h => h) (fun U hU => r_fld24 (o := 4) (by decide) (by simp [eval_put_ne, eval_put_eq, size_put, hts, e1])) ?_
  refine tkS 17 21 (v := vb) hS0 rfl rfl (by kernel_rfl) (by kernel_rfl) (by kernel_rfl) (by kernel_rfl) (wanted_none rfl) (fun _ _ _ h => h) (fun U hU => r_ld22 (b := b1) (o := 4) (by simp [eval_put_ne, eval_put_eq, size_put, hts]) (((hS0).trans hU (fun _ _ h => h)).blk HB.out (fun h => h) |>.cell 4)) ?_
  refine oneCS 2 6 (by kernel_rfl) rfl rfl (wanted_none rfl) (r_call2 Try.func19 (by kernel_rfl) rfl rfl (by simp [eval_put_ne, eval_put_eq, size_put, hts]) rfl) (rnum_at 8 (by decide) w0 nl (by omega)) ?_
  rintro e v1 ⟨rfl, k1⟩
  refine ⟨_, rfl, k1, ?_⟩
  have kk1 : Kept (fun _ => False) w0 v1 := k1
  refine raiseM (S' := Kept (fun _ => False) v1) (fun U hU => k1.trans hU (fun _ _ h => h)) ?_
  have hs1 : (Kept (fun _ => False) v1) _ := Kept.refl _ _
  refine tkS 3 7 (v := .string (strN ([183, 30] ++ numB nl 8))) hs1 rfl rfl (by kernel_rfl) (by kernel_rfl) (by kernel_rfl) (by kernel_rfl) (wanted_none rfl) (fun _ _ _ h => h) (fun U hU => r_add9 (A := [183, 30]) (B := numB nl 8) (by simp only [List.length_append, List.length_cons, List.length_nil, numB_length, textB_length]; have := H5.out; omega) rfl (by simp [eval_put_ne, eval_put_eq, size_put, hts])) ?_
  refine oneCS 6 10 (by kernel_rfl) rfl rfl (wanted_none rfl) (r_call2 Try.func19 (by kernel_rfl) rfl rfl (by simp [eval_put_ne, eval_put_eq, size_put, hts]) rfl) (rnum_at 4 (by decide) v1 ne (by omega)) ?_
  rintro e v2 ⟨rfl, k2⟩
  refine ⟨_, rfl, k2, ?_⟩
  have kk2 : Kept (fun _ => False) w0 v2 := kk1.trans k2 (fun _ _ h => h)
  refine raiseM (S' := Kept (fun _ => False) v2) (fun U hU => k2.trans hU (fun _ _ h => h)) ?_
  have hs2 : (Kept (fun _ => False) v2) _ := Kept.refl _ _
  refine tkS 7 11 (v := .string (strN (([183, 30] ++ numB nl 8) ++ numB ne 4))) hs2 rfl rfl (by kernel_rfl) (by kernel_rfl) (by kernel_rfl) (by kernel_rfl) (wanted_none rfl) (fun _ _ _ h => h) (fun U hU => r_add9 (A := ([183, 30] ++ numB nl 8)) (B := numB ne 4) (by simp only [List.length_append, List.length_cons, List.length_nil, numB_length, textB_length]; have := H5.out; omega) (by simp [eval_put_ne, eval_put_eq, size_put, hts]) (by simp [eval_put_ne, eval_put_eq, size_put, hts])) ?_
  refine oneCS 10 14 (by kernel_rfl) rfl rfl (wanted_none rfl) (r_call2 Try.func19 (by kernel_rfl) rfl rfl (by simp [eval_put_ne, eval_put_eq, size_put, hts]) rfl) (rnum_at 2 (by decide) v2 ni (by omega)) ?_
  rintro e v3 ⟨rfl, k3⟩
  refine ⟨_, rfl, k3, ?_⟩
  have kk3 : Kept (fun _ => False) w0 v3 := kk2.trans k3 (fun _ _ h => h)
  refine raiseM (S' := Kept (fun _ => False) v3) (fun U hU => k3.trans hU (fun _ _ h => h)) ?_
  have hs3 : (Kept (fun _ => False) v3) _ := Kept.refl _ _
  refine tkS 11 15 (v := .string (strN ((([183, 30] ++ numB nl 8) ++ numB ne 4) ++ numB ni 2))) hs3 rfl rfl (by kernel_rfl) (by kernel_rfl) (by kernel_rfl) (by kernel_rfl) (wanted_none rfl) (fun _ _ _ h => h) (fun U hU => r_add9 (A := (([183, 30] ++ numB nl 8) ++ numB ne 4)) (B := numB ni 2) (by simp only [List.length_append, List.length_cons, List.length_nil, numB_length, textB_length]; have := H5.out; omega) (by simp [eval_put_ne, eval_put_eq, size_put, hts]) (by simp [eval_put_ne, eval_put_eq, size_put, hts])) ?_
  refine oneCS 14 18 (by kernel_rfl) rfl rfl (wanted_none rfl) (r_call2 Try.func19 (by kernel_rfl) rfl rfl (by simp [eval_put_ne, eval_put_eq, size_put, hts]) rfl) (rnum_at 2 (by decide) v3 nc (by omega)) ?_
  rintro e v4 ⟨rfl, k4⟩
  refine ⟨_, rfl, k4, ?_⟩
  have kk4 : Kept (fun _ => False) w0 v4 := kk3.trans k4 (fun _ _ h => h)
  refine raiseM (S' := Kept (fun _ => False) v4) (fun U hU => k4.trans hU (fun _ _ h => h)) ?_
  have hs4 : (Kept (fun _ => False) v4) _ := Kept.refl _ _
  refine tkS 15 19 (v := .string (strN (((([183, 30] ++ numB nl 8) ++ numB ne 4) ++ numB ni 2) ++ numB nc 2))) hs4 rfl rfl (by kernel_rfl) (by kernel_rfl) (by kernel_rfl) (by kernel_rfl) (wanted_none rfl) (fun _ _ _ h => h) (fun U hU => r_add9 (A := ((([183, 30] ++ numB nl 8) ++ numB ne 4) ++ numB ni 2)) (B := numB nc 2) (by simp only [List.length_append, List.length_cons, List.length_nil, numB_length, textB_length]; have := H5.out; omega) (by simp [eval_put_ne, eval_put_eq, size_put, hts]) (by simp [eval_put_ne, eval_put_eq, size_put, hts])) ?_
  refine oneCS 18 22 (by kernel_rfl) rfl rfl (wanted_none rfl) (r_call1 Try.func40 (by kernel_rfl) rfl rfl (by simp [eval_put_ne, eval_put_eq, size_put, hts])) (rtext_at v4 vb f.B (HS0.out.kept kk4) (by have := H5.out; omega)) ?_
  rintro e v5 ⟨rfl, k5⟩
  refine ⟨_, rfl, k5, ?_⟩
  have kk5 := kk4.trans k5 (fun _ _ h => h)
  refine raiseM (S' := Kept (fun _ => False) v5) (fun U hU => k5.trans hU (fun _ _ h => h)) ?_
  have hs5 : (Kept (fun _ => False) v5) _ := Kept.refl _ _
  refine tkS 19 23 (v := .string (strN (headN f))) hs5 rfl rfl (by kernel_rfl) (by kernel_rfl) (by kernel_rfl) (by kernel_rfl) (wanted_none rfl) (fun _ _ _ h => h) (fun U hU => (r_add9 (A := (((([183, 30] ++ numB nl 8) ++ numB ne 4) ++ numB ni 2) ++ numB nc 2)) (B := textB f.B) (by simp only [List.length_append, List.length_cons, List.length_nil, numB_length, textB_length]; have := H5.out; omega) (by simp [eval_put_ne, eval_put_eq, size_put, hts]) (by simp [eval_put_ne, eval_put_eq, size_put, hts])).trans (by rw [Hhd.out])) ?_
  refine tkS 20 3 (v := .string (strN (headN f))) hs5 rfl rfl (by kernel_rfl) (by kernel_rfl) (by kernel_rfl) (by kernel_rfl) (wanted_none rfl) (fun _ _ _ h => h) (fun U hU => r_assign (by simp [eval_put_ne, eval_put_eq, size_put, hts])) ?_
  refine doneS (by kernel_rfl) ?_
  rw [hfr.out]
  clear hfr e1 hts
  simp only [put_lit, put_none, List.set_cons_succ, List.set_cons_zero]
  have HK5 := hide (HK0.out.trans kk5 (fun _ _ h => h))
  clear hS0 hs1 hs2 hs3 hs4 hs5 k1 k2 k3 k4 k5 kk1 kk2 kk3 kk4 kk5 hkw hheap HB HS0 HK0
  have hhl := headN_length f
  go_wp2_with fail
  refine (rpad_at v5 (headN f) (by have := H5.out; omega) 64 (by decide)).mono ?_
  rintro e v6 ⟨rfl, rfl⟩
  have HPl := hide (pad64_lt f H5.out Hlt.out)
  go_wp2_with (with_reducible refine stop_convert 9 24 ?_)
  refine hide ?_
  refine aw_bytesN HPl.out rfl ?_
  intro v7 cap hs7 hk7
  have HM := hide (refMark_at v7 _ _ hs7 (by rw [pad64_length f H5.out]; decide))
  have HK7 := hide (HK5.out.trans hk7 (fun _ _ h => h))
  clear hs7 hk7 HK5 hhl
  rw [pad64_length f H5.out] at HM ⊢
  go_wp2_with fail
  refine HM.out.mono ?_
  rintro e v8 ⟨rfl, hk8⟩
  go_wp2
  go_ret
  exact ⟨rfl, HK7.out.trans hk8 (fun _ _ h => h)⟩
end Go.Proofs.Ytapoagpkjngjpaa

/-
  Get, of the reference.
-/
namespace Go.Proofs.Ytapoagpkjngjpaa
open Go.RowKit Go.Shelf
set_option linter.unusedSimpArgs false
set_option linter.unusedVariables false
set_option maxRecDepth 100000

theorem rg_a {b : List Nat} (h : b.length ≠ 64) : refGetN b = (fr0, 20) := by unfold refGetN; rw [if_pos (.inl h)]
theorem rg_b {b : List Nat} (h : b.getD 0 0 ≠ 183) : refGetN b = (fr0, 20) := by unfold refGetN; rw [if_pos (.inr (.inl h))]
theorem rg_c {b : List Nat} (h : b.getD 1 0 ≠ 30) : refGetN b = (fr0, 20) := by unfold refGetN; rw [if_pos (.inr (.inr h))]
theorem rg_d {b : List Nat} (h : b.length = 64) (h0 : b.getD 0 0 = 183) (h1 : b.getD 1 0 = 30) (h2 : markN b ≠ b) : refGetN b = (fr0, 21) := by
  unfold refGetN; rw [if_neg (by simp only [not_or, Decidable.not_not]; exact ⟨h, h0, h1⟩), if_pos h2]
theorem rg_e {b : List Nat} (h : b.length = 64) (h0 : b.getD 0 0 = 183) (h1 : b.getD 1 0 = 30) (h2 : markN b = b) : refGetN b = if (refScanN b).2 ≠ 0 ∨ rightN (refScanN b).1 = false ∨ putN (refScanN b).1 ≠ b then (fr0, 20) else ((refScanN b).1, 0) := by
  unfold refGetN; rw [if_neg (by simp only [not_or, Decidable.not_not]; exact ⟨h, h0, h1⟩), if_neg (by simp [h2])]
theorem Src.lo {w : World} {sb so len cap : Nat} {b : List Nat} (h : Src w (.slice (some ⟨sb, so, none⟩) len cap) b) (n : Nat) (hn : n < len) : Src w (.slice (some ⟨sb, so + n, none⟩) (len - n) (cap - n)) (b.drop n) := by
  obtain ⟨bo, c, e, h1, h2, h3, h4⟩ := h
  cases e
  have hl : (b.drop n).length = b.length - n := by simp
  refine ⟨some ⟨sb, so + n, none⟩, cap - n, by rw [hl], by omega, fun x hx => h2 x (List.mem_of_mem_drop hx), fun hp => ?_, fun h => by cases h⟩
  obtain ⟨sb', so', e, hc⟩ := h3 (by omega)
  cases e
  refine ⟨sb, so + n, rfl, ?_⟩
  have := hc.part n b.length
  rw [← BV_drop, List.take_of_length_le (by rw [BV_length]; simp)] at this
  exact this
theorem built55 (s : ByteArray) : Try.prog.built 63 [(0, .string s)] = some #[.string s, .int .i64 0] := by rfl
theorem r_build55 {ρ : Operand → Value} {w : World} {dst : Option Tmp} {ty : TypeId} {pos : String} {aft : Array Edge} {gd : Option (Nat × Bool)} {x : Operand} {s : ByteArray} (hx : ρ x = .string s) :
    (execOp ρ ⟨dst, .build 63 #[(0, x)], ty, pos, aft, gd⟩).run Try.prog w = .ok (.value (.agg #[.string s, .int .i64 0])) w := by
  have hr := run_build (P := Try.prog) w 63 #[(0, .string s)] _ (by simpa using built55 s)
  simp [execOp, hx, hr]
section
variable {ρ : Operand → Value} {w : World} {dst : Option Tmp} {ty : TypeId} {pos : String} {aft : Array Edge} {gd : Option (Nat × Bool)} {x : Operand}
theorem r_nilck {b o : Nat} (hx : ρ x = .pointer (some ⟨b, o, none⟩)) : (execOp ρ ⟨dst, .nilCheck x, ty, pos, aft, gd⟩).run Try.prog w = .ok (.value (.pointer (some ⟨b, o, none⟩))) w := by
  go_simp
theorem r_fld55_1 {b : Nat} (hx : ρ x = .pointer (some ⟨b, 0, none⟩)) : (execOp ρ ⟨dst, .fieldAddr 63 x 1, ty, pos, aft, gd⟩).run Try.prog w = .ok (.value (.pointer (some ⟨b, 1, none⟩))) w := by
  go_simp
end
theorem refnum_q {w : World} {x : Nat} {B : List Nat} {E : Int} (h : RefAt w x B E) (hB : ∀ y ∈ B, y < 256) (hl : B.length ≤ 1000000) (m : Int) (hm : m ≤ 9223372036854775807) {n : Int} {B' : List Nat} {E' : Int} (hq : scanNum B E m = (n, B', E')) :
    Calls Try.prog 27 #[.pointer (some ⟨x, 0, none⟩), .int .i64 m] w fun e w' => e = .returned (.int .i64 n) ∧ RefAt w' x B' E' ∧ Kept (fun k => k = x) w w' := by
  have := refnum_at w x B hB E h hl m hm
  rw [hq] at this
  exact this
theorem reftext_q {w : World} {x : Nat} {B : List Nat} {E : Int} (h : RefAt w x B E) (hB : ∀ y ∈ B, y < 256) (hl : B.length ≤ 1000000) (m : Int) {T B' : List Nat} {E' : Int} (hq : scanText B E m = (T, B', E')) :
    Calls Try.prog 47 #[.pointer (some ⟨x, 0, none⟩), .int .i64 m] w fun e w' => e = .returned (.string (strN T)) ∧ RefAt w' x B' E' ∧ Kept (fun k => k = x) w w' := by
  have := reftext_at w x B hB E h hl m
  rw [hq] at this
  exact this

set_option maxRecDepth 100000 in
set_option maxHeartbeats 8000000 in
theorem rget_at (w : World) (v : Value) (b : List Nat) (hs : Src w v b) (hl : b.length ≤ 9223372036854775807) :
    Calls Try.prog 26 #[v] w fun e w' => ∃ vb, e = .returned (.tuple #[frAgg (refGetN b).1 vb, .int .i64 (refGetN b).2]) ∧ Src w' vb (refGetN b).1.B ∧ Kept (fun _ => False) w w' := by
  obtain ⟨i24, hi24, hz24, hs24, hb24⟩ := info_parts Try.info51
  obtain ⟨i3, hi3, hz3, hs3, hb3⟩ := info_parts Try.info3
  obtain ⟨i22, hi22, hz22, hs22, hb22⟩ := info_parts Try.info24
  have Hi := hide hi24
  have Hz := hide hz24
  have Hi3 := hide hi3
  have Hs3 := hide hs3
  have Hi22 := hide hi22
  have Hs22 := hide hs22
  have HO := hide (frV_one fr0 none 0 0)
  clear hi24 hz24 hs24 hb24 hi3 hz3 hs3 hb3 hi22 hz22 hs22 hb22
  by_cases h64 : b.length = 64
  case neg =>
    rw [rg_a h64]
    obtain ⟨bo, cap, rfl⟩ := hs.slice
    have hlen : ((b.length : Int) != 64) = true := by simp; omega
    obtain ⟨len, hle⟩ : ∃ len, len = b.length := ⟨_, rfl⟩
    rw [← hle] at hlen hl ⊢
    clear hs h64 hle
    go_enter Try.func26, Try.ntmps26
    go_wp2_with (first
      | ((with_reducible refine aw_alloc (dst := some 2) Hi.out Hz.out ?_); intro w1 hb1 hk1 hz1)
      | ((with_reducible refine wpList_run rfl r_build24_0 ?_))
      | ((with_reducible refine aw_store (x := .tmp 2) (M := frV fr0 (.slice none 0 0)) Try.agg51 rfl rfl rfl HO.out hb1 (by simp [Value.cells]) ?_); intro w2 hw2 hk2 hz2; rw [put_whole _ _ (by simp [Value.cells, frV])] at hw2)
      | fail)
    refine bodyPost_ret (results_cell2 (t := 2) (u := 3) (ty := 51) rfl Try.agg51 rfl hw2 rfl) rfl ?_
    exact ⟨_, rfl, Src.nil _, hk1.trans hk2 (fun i hi h => by omega)⟩
  case pos =>
  obtain ⟨bo, cap, rfl, hcap, hbyte, hsrc, hnil⟩ := hs
  obtain ⟨sb, so, rfl, hcs⟩ := hsrc (by omega)
  have hS : Src w (.slice (some ⟨sb, so, none⟩) 64 cap) b := ⟨_, cap, by rw [h64], hcap, hbyte, fun _ => ⟨sb, so, rfl, hcs⟩, fun h => by cases h⟩
  rw [h64] at hcap ⊢
  have HS := hide hS
  have H64 := hide h64
  have Hbyte := hide hbyte
  obtain ⟨x0, hx0⟩ : ∃ x, x = b.getD 0 0 := ⟨_, rfl⟩
  obtain ⟨x1, hx1⟩ : ∃ x, x = b.getD 1 0 := ⟨_, rfl⟩
  have HC0 : Hid (∀ w1, Kept (fun _ => False) w w1 → w1.cell? ⟨sb, so, none⟩ = some (.int .u8 (x0 : Nat)) ∧ w1.cell? ⟨sb, so + 1, none⟩ = some (.int .u8 (x1 : Nat))) := hide (fun w1 hk => by
    have h1 := hk.cells hcs (fun h => h)
    refine ⟨?_, ?_⟩
    · have := h1 0 _ (BV_get b 0 (by omega))
      rw [hx0, List.getD_eq_getElem?_getD, List.getElem?_eq_getElem (by omega)]
      simpa using this
    · have := h1 1 _ (BV_get b 1 (by omega))
      rw [hx1, List.getD_eq_getElem?_getD, List.getElem?_eq_getElem (by omega)]
      simpa using this)
  have Hx0 := hide hx0
  have Hx1 := hide hx1
  clear hbyte hsrc hnil hcs hS hl h64 hx0 hx1
  by_cases h0 : x0 = 183
  case neg =>
    rw [rg_b (by rw [← Hx0.out]; exact h0)]
    have hne : ((x0 : Int) != 183) = true := by simp; omega
    clear h0
    go_enter Try.func26, Try.ntmps26
    go_wp2_with (first
      | ((with_reducible refine aw_alloc (dst := some 2) Hi.out Hz.out ?_); intro w1 hb1 hk1 hz1; have c0 := (HC0.out w1 hk1).1; have c1 := (HC0.out w1 hk1).2)
      | ((with_reducible refine wpList_run rfl r_build24_0 ?_))
      | ((with_reducible refine aw_store (x := .tmp 2) (M := frV fr0 (.slice none 0 0)) Try.agg51 rfl rfl rfl HO.out hb1 (by simp [Value.cells]) ?_); intro w2 hw2 hk2 hz2; rw [put_whole _ _ (by simp [Value.cells, frV])] at hw2)
      | fail)
    refine bodyPost_ret (results_cell2 (t := 2) (u := 3) (ty := 51) rfl Try.agg51 rfl hw2 rfl) rfl ?_
    exact ⟨_, rfl, Src.nil _, hk1.trans hk2 (fun i hi h => by omega)⟩
  case pos =>
  subst h0
  by_cases h1 : x1 = 30
  case neg =>
    rw [rg_c (by rw [← Hx1.out]; exact h1)]
    have hne : ((x1 : Int) != 30) = true := by simp; omega
    clear h1
    go_enter Try.func26, Try.ntmps26
    go_wp2_with (first
      | ((with_reducible refine aw_alloc (dst := some 2) Hi.out Hz.out ?_); intro w1 hb1 hk1 hz1; have c0 := (HC0.out w1 hk1).1; have c1 := (HC0.out w1 hk1).2)
      | ((with_reducible refine wpList_run rfl r_build24_0 ?_))
      | ((with_reducible refine aw_store (x := .tmp 2) (M := frV fr0 (.slice none 0 0)) Try.agg51 rfl rfl rfl HO.out hb1 (by simp [Value.cells]) ?_); intro w2 hw2 hk2 hz2; rw [put_whole _ _ (by simp [Value.cells, frV])] at hw2)
      | fail)
    refine bodyPost_ret (results_cell2 (t := 2) (u := 3) (ty := 51) rfl Try.agg51 rfl hw2 rfl) rfl ?_
    exact ⟨_, rfl, Src.nil _, hk1.trans hk2 (fun i hi h => by omega)⟩
  case pos =>
  subst h1
  go_enter Try.func26, Try.ntmps26
  go_wp2_with (first
    | ((with_reducible refine aw_alloc (dst := some 2) Hi.out Hz.out ?_); intro w1 hb1 hk1 hz1; have c0 := (HC0.out w1 hk1).1; have c1 := (HC0.out w1 hk1).2)
    | fail)
  have HBr : Hid (Blk w1 w.heap.size (frV fr0 (.slice none 0 0)) 51) := hide hb1
  have HK1 := hide hk1
  obtain ⟨r, hr⟩ : ∃ r, r = w.heap.size := ⟨_, rfl⟩
  have HWr := hide (show w.heap.size ≤ r by omega)
  rw [← hr] at HBr ⊢
  clear hb1 hk1 hz1 hr c0 c1 HC0
  by_cases hm : markN b = b
  case neg =>
    have HMd : Hid (decide (strN (markN b) ≠ strN b) = true) := hide (by simp; exact fun h => hm ((strN_iff (markN_lt b Hbyte.out) Hbyte.out).1 h))
    have Hm := hide hm
    clear hm
    refine hold_frame (p := fun fr => Code.wp Try.prog _ _ fr _) ?_
    intro fr hfr
    have e0 : fr.eval (.tmp 0) = .slice (some ⟨sb, so, none⟩) 64 cap := by rw [hfr.out]; rfl
    have hts : fr.tmps.size = 68 := by rw [hfr.out]; rfl
    refine region_S0 99 Try.mixed ?_
    intro w0 hkw hheap
    have HB0 := hide (hkw.blk HBr.out (fun h => h))
    have HS0 := hide ((HS.out.kept HK1.out).kept hkw)
    have HK0 := hide (HK1.out.trans hkw (fun _ _ h => h))
    clear HBr HK1
    have hS0 : Kept (fun _ => False) w0 w0 := Kept.refl (fun _ => False) w0
    refine ⟨Kept (fun _ => False) w0, ?_⟩
    refine tkS 0 22 (v := .slice (some ⟨sb, so, none⟩) 64 cap) hS0 rfl rfl (by kernel_rfl) (by kernel_rfl) (by kernel_rfl) (by kernel_rfl) (wanted_none rfl) (fun _ _ _ h => h) (fun U hU => r_move (by simp [eval_put_ne, eval_put_eq, size_put, hts, e0])) ?_
    refine tkS 2 24 (v := .slice (some ⟨sb, so, none⟩) 64 cap) hS0 rfl rfl (by kernel_rfl) (by kernel_rfl) (by kernel_rfl) (by kernel_rfl) (wanted_none rfl) (fun _ _ _ h => h) (fun U hU => r_move (by simp [eval_put_ne, eval_put_eq, size_put, hts, e0])) ?_
    refine tkS 3 25 (v := .string (strN b)) hS0 rfl rfl (by kernel_rfl) (by kernel_rfl) (by kernel_rfl) (by kernel_rfl) (wanted_none rfl) (fun _ _ _ h => h) (fun U hU => r_strS (by simp [eval_put_ne, eval_put_eq, size_put, hts]) (HS0.out.kept hU)) ?_
    refine oneCS 1 23 (by kernel_rfl) rfl rfl (wanted_none rfl) (r_call1 Try.func41 (by kernel_rfl) rfl rfl (by simp [eval_put_ne, eval_put_eq, size_put, hts])) (refMark_at w0 _ b HS0.out (by rw [H64.out]; decide)) ?_
    rintro e w2 ⟨rfl, hk2⟩
    refine ⟨_, rfl, hk2, ?_⟩
    refine raiseM (S' := Kept (fun _ => False) w2) (fun U hU => hk2.trans hU (fun _ _ h => h)) ?_
    have hS2 : (Kept (fun _ => False) w2) _ := Kept.refl _ _
    refine tkS 4 26 (v := .bool true) hS2 rfl rfl (by kernel_rfl) (by kernel_rfl) (by kernel_rfl) (by kernel_rfl) (wanted_none rfl) (fun _ _ _ h => h) (fun U hU => (r_neq9 (p := strN (markN b)) (q := strN b) (by simp [eval_put_ne, eval_put_eq, size_put, hts]) (by simp [eval_put_ne, eval_put_eq, size_put, hts])).trans (by rw [HMd.out])) ?_
    refine doneS (by kernel_rfl) ?_
    rw [hfr.out]
    clear hfr e0 hts
    simp only [put_lit, put_none, List.set_cons_succ, List.set_cons_zero]
    have HB2 := hide (hk2.blk HB0.out (fun h => h))
    have HK2 := hide (HK0.out.trans hk2 (fun _ _ h => h))
    clear hS0 hS2 hk2 hkw hheap HB0 HS0 HK0
    go_wp2_with (first
      | ((with_reducible refine wpList_run rfl r_build24_0 ?_))
      | ((with_reducible refine aw_store (x := .tmp 2) (M := frV fr0 (.slice none 0 0)) Try.agg51 rfl rfl rfl HO.out HB2.out (by simp [Value.cells, frV]) ?_); intro wz hwz hkz hzz; rw [put_whole _ _ (by simp [Value.cells, frV])] at hwz)
      | fail)
    refine bodyPost_ret (results_cell2 (t := 2) (u := 3) (ty := 51) rfl Try.agg51 rfl hwz rfl) rfl ?_
    rw [rg_d H64.out Hx0.out.symm Hx1.out.symm Hm.out]
    exact ⟨_, rfl, Src.nil _, HK2.out.trans hkz (fun i hi h => by have := HWr.out; omega)⟩
  case pos =>
  have HMd : Hid (decide (strN (markN b) ≠ strN b) = false) := hide (by simp [hm])
  have Hm := hide hm
  clear hm
  refine hold_frame (p := fun fr => Code.wp Try.prog _ _ fr _) ?_
  intro fr hfr
  have e0 : fr.eval (.tmp 0) = .slice (some ⟨sb, so, none⟩) 64 cap := by rw [hfr.out]; rfl
  have hts : fr.tmps.size = 68 := by rw [hfr.out]; rfl
  refine region_S0 99 Try.mixed ?_
  intro w0 hkw hheap
  have HB0 := hide (hkw.blk HBr.out (fun h => h))
  have HS0 := hide ((HS.out.kept HK1.out).kept hkw)
  have HK0 := hide (HK1.out.trans hkw (fun _ _ h => h))
  clear HBr HK1
  have hS0 : Kept (fun _ => False) w0 w0 := Kept.refl (fun _ => False) w0
  refine ⟨Kept (fun _ => False) w0, ?_⟩
  refine tkS 0 22 (v := .slice (some ⟨sb, so, none⟩) 64 cap) hS0 rfl rfl (by kernel_rfl) (by kernel_rfl) (by kernel_rfl) (by kernel_rfl) (wanted_none rfl) (fun _ _ _ h => h) (fun U hU => r_move (by simp [eval_put_ne, eval_put_eq, size_put, hts, e0])) ?_
  refine tkS 2 24 (v := .slice (some ⟨sb, so, none⟩) 64 cap) hS0 rfl rfl (by kernel_rfl) (by kernel_rfl) (by kernel_rfl) (by kernel_rfl) (wanted_none rfl) (fun _ _ _ h => h) (fun U hU => r_move (by simp [eval_put_ne, eval_put_eq, size_put, hts, e0])) ?_
  refine tkS 3 25 (v := .string (strN b)) hS0 rfl rfl (by kernel_rfl) (by kernel_rfl) (by kernel_rfl) (by kernel_rfl) (wanted_none rfl) (fun _ _ _ h => h) (fun U hU => r_strS (by simp [eval_put_ne, eval_put_eq, size_put, hts]) (HS0.out.kept hU)) ?_
  refine oneCS 1 23 (by kernel_rfl) rfl rfl (wanted_none rfl) (r_call1 Try.func41 (by kernel_rfl) rfl rfl (by simp [eval_put_ne, eval_put_eq, size_put, hts])) (refMark_at w0 _ b HS0.out (by rw [H64.out]; decide)) ?_
  rintro e w2 ⟨rfl, hk2⟩
  refine ⟨_, rfl, hk2, ?_⟩
  refine raiseM (S' := Kept (fun _ => False) w2) (fun U hU => hk2.trans hU (fun _ _ h => h)) ?_
  have hS2 : (Kept (fun _ => False) w2) _ := Kept.refl _ _
  refine tkS 4 26 (v := .bool false) hS2 rfl rfl (by kernel_rfl) (by kernel_rfl) (by kernel_rfl) (by kernel_rfl) (wanted_none rfl) (fun _ _ _ h => h) (fun U hU => (r_neq9 (p := strN (markN b)) (q := strN b) (by simp [eval_put_ne, eval_put_eq, size_put, hts]) (by simp [eval_put_ne, eval_put_eq, size_put, hts])).trans (by rw [HMd.out])) ?_
  refine doneS (by kernel_rfl) ?_
  rw [hfr.out]
  clear hfr e0 hts
  simp only [put_lit, put_none, List.set_cons_succ, List.set_cons_zero]
  have HB2 := hide (hk2.blk HB0.out (fun h => h))
  have HK2 := hide (HK0.out.trans hk2 (fun _ _ h => h))
  clear hS0 hS2 hk2 hkw hheap HB0 HS0 HK0
  obtain ⟨D, hD⟩ : ∃ D, D = b.drop 2 := ⟨_, rfl⟩
  have HDl : Hid (D.length = 62) := hide (by rw [hD]; simp [H64.out])
  have HDb : Hid (∀ y ∈ D, y < 256) := hide (by rw [hD]; exact fun y hy => Hbyte.out y (List.mem_of_mem_drop hy))
  obtain ⟨n1, B1, E1, q1⟩ : ∃ n B E, scanNum D 0 8 = (n, B, E) := ⟨_, _, _, rfl⟩
  obtain ⟨n2, B2, E2, q2⟩ : ∃ n B E, scanNum B1 E1 4 = (n, B, E) := ⟨_, _, _, rfl⟩
  obtain ⟨n3, B3, E3, q3⟩ : ∃ n B E, scanNum B2 E2 2 = (n, B, E) := ⟨_, _, _, rfl⟩
  obtain ⟨n4, B4, E4, q4⟩ : ∃ n B E, scanNum B3 E3 2 = (n, B, E) := ⟨_, _, _, rfl⟩
  obtain ⟨T, B5, E5, q5⟩ : ∃ n B E, scanText B4 E4 40 = (n, B, E) := ⟨_, _, _, rfl⟩
  obtain ⟨f, hf⟩ : ∃ f : Fr, f = ⟨n1, n2, n3, n4, T⟩ := ⟨_, rfl⟩
  have hsc : refScanN b = (f, E5) := by
    unfold refScanN
    rw [← hD, q1]; simp only []
    rw [q2]; simp only []
    rw [q3]; simp only []
    rw [q4]; simp only []
    rw [q5, hf]
  have hb1 : ∀ y ∈ B1, y < 256 := by have := scanNum_lt (E := 0) (w := 8) HDb.out; rw [q1] at this; exact this
  have hb2 : ∀ y ∈ B2, y < 256 := by have := scanNum_lt (E := E1) (w := 4) hb1; rw [q2] at this; exact this
  have hb3 : ∀ y ∈ B3, y < 256 := by have := scanNum_lt (E := E2) (w := 2) hb2; rw [q3] at this; exact this
  have hb4 : ∀ y ∈ B4, y < 256 := by have := scanNum_lt (E := E3) (w := 2) hb3; rw [q4] at this; exact this
  have hbT : ∀ y ∈ T, y < 256 := by have := (scanText_lt (E := E4) (m := 40) hb4).1; rw [q5] at this; exact this
  have k1 : B1.length ≤ D.length := by have := scanNum_len D 0 8; rw [q1] at this; exact this
  have k2 : B2.length ≤ B1.length := by have := scanNum_len B1 E1 4; rw [q2] at this; exact this
  have k3 : B3.length ≤ B2.length := by have := scanNum_len B2 E2 2; rw [q3] at this; exact this
  have k4 : B4.length ≤ B3.length := by have := scanNum_len B3 E3 2; rw [q4] at this; exact this
  have G0 : Hid (D.length ≤ 1000000) := hide (by have := HDl.out; omega)
  have G1 : Hid (B1.length ≤ 1000000) := hide (by have := HDl.out; omega)
  have G2 : Hid (B2.length ≤ 1000000) := hide (by have := HDl.out; omega)
  have G3 : Hid (B3.length ≤ 1000000) := hide (by have := HDl.out; omega)
  have G4 : Hid (B4.length ≤ 1000000) := hide (by have := HDl.out; omega)
  have Y1 := hide hb1
  have Y2 := hide hb2
  have Y3 := hide hb3
  have Y4 := hide hb4
  have YT := hide hbT
  have Q1 := hide q1
  have Q2 := hide q2
  have Q3 := hide q3
  have Q4 := hide q4
  have Q5 := hide q5
  have Hsc := hide hsc
  have Hf := hide hf
  have HD := hide hD
  have Hrg := hide (rg_e H64.out Hx0.out.symm Hx1.out.symm Hm.out)
  rw [hsc] at Hrg
  clear k1 k2 k3 k4 hb1 hb2 hb3 hb4 hbT q1 q2 q3 q4 q5 hsc hf hD Hx0 Hx1
  go_wp2_with (with_reducible refine stop_slice 24 ?_)
  refine hide ?_
  refine wpList_run rfl (r_lo22 2 rfl rfl (by decide) (by omega)) ?_
  have hs5 := run_strS ((HS.out.kept HK2.out).lo 2 (by decide))
  rw [← HD.out] at hs5
  obtain ⟨ox, hox⟩ : ∃ ox, ox = so + 2 := ⟨_, rfl⟩
  obtain ⟨cx, hcx⟩ : ∃ cx, cx = cap - 2 := ⟨_, rfl⟩
  rw [← hox, ← hcx, show 64 - 2 = 62 from rfl] at hs5 ⊢
  clear hox hcx
  go_wp2_with (with_reducible refine stop_build 63 ?_)
  refine hide ?_
  refine wpList_run rfl (r_build55 rfl) ?_
  clear hs5
  go_wp2_with (first
    | ((with_reducible refine aw_box (t := 63) (v := .agg #[.string (strN D), .int .i64 0]) rfl ?_); intro w3 hb3 hk3 hz3; have Yz3 := hide hz3; clear hz3)
    | ((with_reducible refine aw_alloc (dst := some 5) Hi.out Hz.out ?_); intro w4 hb4 hk4 hz4; have Yz4 := hide hz4; clear hz4)
    | fail)
  obtain ⟨x, hx⟩ : ∃ x, x = w2.heap.size := ⟨_, rfl⟩
  obtain ⟨b5, hb5⟩ : ∃ x, x = w3.heap.size := ⟨_, rfl⟩
  have hrx : r < x := by have := HB2.out.lt; omega
  have hx5 : x < b5 := by have := Yz3.out; omega
  have HX4 : Hid (RefAt w4 x D 0) := hide (by rw [hx]; exact hk4.blk hb3 (fun h => h))
  have H54 : Hid (Blk w4 b5 (frV fr0 (.slice none 0 0)) 51) := hide (by rw [hb5]; exact hb4)
  have HB4 := hide (hk4.blk (hk3.blk HB2.out (fun h => h)) (fun h => h))
  have HK4 := hide ((HK2.out.trans hk3 (fun _ _ h => h)).trans hk4 (fun _ _ h => h))
  rw [← hx, ← hb5]
  have HWx := hide (show w.heap.size ≤ x by have := HWr.out; omega)
  have HW5 := hide (show w.heap.size ≤ b5 by have := HWr.out; omega)
  clear hb3 hk3 hb4 hk4 hx hb5 Yz3 Yz4 HB2 HK2
  go_wp2_with fail
  refine (refnum_q HX4.out HDb.out G0.out 8 (by decide) Q1.out).mono ?_
  rintro e w5 ⟨rfl, hx5, hk5⟩
  have HX5 := hide hx5
  have H55 := hide (hk5.blk H54.out (show ¬ b5 = x by omega))
  have HB5 := hide (hk5.blk HB4.out (show ¬ r = x by omega))
  have HK5 := hide (HK4.out.trans hk5 (fun i hi h => by have := HWx.out; omega))
  clear hx5 hk5 HX4 H54 HB4 HK4
  go_wp2_with (with_reducible refine stop_store 3 ?_)
  refine hide ?_
  refine aw_store1 (v := .int .i64 n1) (off := 0) Hi3.out Hs3.out rfl rfl rfl rfl H55.out (by simp [frV]) ?_
  intro w6 hb6 hk6 hz6
  have H56 : Hid (Blk w6 b5 [.int .i64 n1, .int .i64 0, .int .i64 0, .int .i64 0, .slice none 0 0] 51) := hide hb6
  have HX6 : Hid (RefAt w6 x B1 E1) := hide (hk6.blk HX5.out (show ¬ x = b5 by omega))
  have HB6 := hide (hk6.blk HB5.out (show ¬ r = b5 by omega))
  have HK6 := hide (HK5.out.trans hk6 (fun i hi h => by have := HW5.out; omega))
  clear hb6 hk6 hz6 HX5 H55 HB5 HK5
  go_wp2_with fail
  refine (refnum_q HX6.out Y1.out G1.out 4 (by decide) Q2.out).mono ?_
  rintro e w7 ⟨rfl, hx7, hk7⟩
  have HX7 := hide hx7
  have H57 := hide (hk7.blk H56.out (show ¬ b5 = x by omega))
  have HB7 := hide (hk7.blk HB6.out (show ¬ r = x by omega))
  have HK7 := hide (HK6.out.trans hk7 (fun i hi h => by have := HWx.out; omega))
  clear hx7 hk7 HX6 H56 HB6 HK6
  go_wp2_with (with_reducible refine stop_store 3 ?_)
  refine hide ?_
  refine aw_store1 (v := .int .i64 n2) (off := 1) Hi3.out Hs3.out rfl rfl rfl rfl H57.out (by simp [frV]) ?_
  intro w8 hb8 hk8 hz8
  have H58 : Hid (Blk w8 b5 [.int .i64 n1, .int .i64 n2, .int .i64 0, .int .i64 0, .slice none 0 0] 51) := hide hb8
  have HX8 : Hid (RefAt w8 x B2 E2) := hide (hk8.blk HX7.out (show ¬ x = b5 by omega))
  have HB8 := hide (hk8.blk HB7.out (show ¬ r = b5 by omega))
  have HK8 := hide (HK7.out.trans hk8 (fun i hi h => by have := HW5.out; omega))
  clear hb8 hk8 hz8 HX7 H57 HB7 HK7
  go_wp2_with fail
  refine (refnum_q HX8.out Y2.out G2.out 2 (by decide) Q3.out).mono ?_
  rintro e w9 ⟨rfl, hx9, hk9⟩
  have HX9 := hide hx9
  have H59 := hide (hk9.blk H58.out (show ¬ b5 = x by omega))
  have HB9 := hide (hk9.blk HB8.out (show ¬ r = x by omega))
  have HK9 := hide (HK8.out.trans hk9 (fun i hi h => by have := HWx.out; omega))
  clear hx9 hk9 HX8 H58 HB8 HK8
  go_wp2_with (with_reducible refine stop_store 3 ?_)
  refine hide ?_
  refine aw_store1 (v := .int .i64 n3) (off := 2) Hi3.out Hs3.out rfl rfl rfl rfl H59.out (by simp [frV]) ?_
  intro w10 hb10 hk10 hz10
  have H510 : Hid (Blk w10 b5 [.int .i64 n1, .int .i64 n2, .int .i64 n3, .int .i64 0, .slice none 0 0] 51) := hide hb10
  have HX10 : Hid (RefAt w10 x B3 E3) := hide (hk10.blk HX9.out (show ¬ x = b5 by omega))
  have HB10 := hide (hk10.blk HB9.out (show ¬ r = b5 by omega))
  have HK10 := hide (HK9.out.trans hk10 (fun i hi h => by have := HW5.out; omega))
  clear hb10 hk10 hz10 HX9 H59 HB9 HK9
  go_wp2_with fail
  refine (refnum_q HX10.out Y3.out G3.out 2 (by decide) Q4.out).mono ?_
  rintro e w11 ⟨rfl, hx11, hk11⟩
  have HX11 := hide hx11
  have H511 := hide (hk11.blk H510.out (show ¬ b5 = x by omega))
  have HB11 := hide (hk11.blk HB10.out (show ¬ r = x by omega))
  have HK11 := hide (HK10.out.trans hk11 (fun i hi h => by have := HWx.out; omega))
  clear hx11 hk11 HX10 H510 HB10 HK10
  go_wp2_with (with_reducible refine stop_store 3 ?_)
  refine hide ?_
  refine aw_store1 (v := .int .i64 n4) (off := 3) Hi3.out Hs3.out rfl rfl rfl rfl H511.out (by simp [frV]) ?_
  intro w12 hb12 hk12 hz12
  have H512 : Hid (Blk w12 b5 [.int .i64 n1, .int .i64 n2, .int .i64 n3, .int .i64 n4, .slice none 0 0] 51) := hide hb12
  have HX12 : Hid (RefAt w12 x B4 E4) := hide (hk12.blk HX11.out (show ¬ x = b5 by omega))
  have HB12 := hide (hk12.blk HB11.out (show ¬ r = b5 by omega))
  have HK12 := hide (HK11.out.trans hk12 (fun i hi h => by have := HW5.out; omega))
  clear hb12 hk12 hz12 HX11 H511 HB11 HK11
  go_wp2_with fail
  refine (reftext_q HX12.out Y4.out G4.out 40 Q5.out).mono ?_
  rintro e w13 ⟨rfl, hx13, hk13⟩
  have HX13 := hide hx13
  have H513 := hide (hk13.blk H512.out (show ¬ b5 = x by omega))
  have HB13 := hide (hk13.blk HB12.out (show ¬ r = x by omega))
  have HK13 := hide (HK12.out.trans hk13 (fun i hi h => by have := HWx.out; omega))
  clear hx13 hk13 HX12 H512 HB12 HK12
  go_wp2_with (with_reducible refine stop_convert 9 24 ?_)
  refine hide ?_
  refine aw_bytesN YT.out rfl ?_
  intro w14 ct hs14 hk14
  have HX14 : Hid (RefAt w14 x B5 E5) := hide (hk14.blk HX13.out (fun h => h))
  have H514 := hide (hk14.blk H513.out (fun h => h))
  have HB14 := hide (hk14.blk HB13.out (fun h => h))
  have HK14 := hide (HK13.out.trans hk14 (fun _ _ h => h))
  have HT14 := hide hs14
  obtain ⟨gt, hgt⟩ : ∃ g, g = w13.heap.size := ⟨_, rfl⟩
  obtain ⟨lt, hlt⟩ : ∃ n, n = T.length := ⟨_, rfl⟩
  rw [← hgt, ← hlt] at HT14 ⊢
  have Hlt := hide hlt
  clear hs14 hk14 hgt hlt HX13 H513 HB13 HK13
  go_wp2_with (with_reducible refine stop_store 24 ?_)
  refine hide ?_
  refine aw_store1 (v := .slice (some ⟨gt, 0, none⟩) lt ct) (off := 4) Hi22.out Hs22.out rfl rfl rfl rfl H514.out (by simp) ?_
  intro w15 hb15 hk15 hz15
  have H515 : Hid (Blk w15 b5 (frV f (.slice (some ⟨gt, 0, none⟩) lt ct)) 51) := hide (by rw [Hf.out]; exact hb15)
  have HX15 : Hid (RefAt w15 x B5 E5) := hide (hk15.blk HX14.out (show ¬ x = b5 by omega))
  have HB15 := hide (hk15.blk HB14.out (show ¬ r = b5 by omega))
  have HK15 := hide (HK14.out.trans hk15 (fun i hi h => by have := HW5.out; omega))
  have hT15 : Src w15 (.slice (some ⟨gt, 0, none⟩) lt ct) T := by
    refine HT14.out.keptBut hk15 ?_
    rintro q rfl i m hc
    have h5 : Blk w14 q (frV ⟨n1, n2, n3, n4, []⟩ (.slice none 0 0)) 51 := H514.out
    exact nobyte24 h5 q rfl i m hc
  have HT15 : Hid (Src w15 (.slice (some ⟨gt, 0, none⟩) lt ct) f.B) := hide (by rw [Hf.out]; exact hT15)
  have HfB : Hid (f.B.length = lt) := hide (by rw [Hf.out, Hlt.out])
  have Hflt : Hid (∀ y ∈ f.B, y < 256) := hide (by rw [Hf.out]; exact YT.out)
  clear hb15 hk15 hz15 hT15 HX14 H514 HB14 HK14 HT14 Q1 Q2 Q3 Q4 Q5 G0 G1 G2 G3 G4 Y1 Y2 Y3 Y4 YT HDl HDb Hsc Hf
  go_wp2
  by_cases hE : E5 = 0
  case neg =>
    have HEd : Hid (decide (E5 ≠ 0) = true) := hide (by simpa using hE)
    have Hfin : Hid (refGetN b = (fr0, 20)) := hide (by rw [Hrg.out, if_pos (.inl hE)])
    clear hE
    refine hold_frame (p := fun fr => Code.wp Try.prog _ _ fr _) ?_
    intro fr hfr
    have e0 : fr.eval (.tmp 0) = .slice (some ⟨sb, so, none⟩) 64 cap := by rw [hfr.out]; rfl
    have e4 : fr.eval (.tmp 4) = .pointer (some ⟨x, 0, none⟩) := by rw [hfr.out]; rfl
    have e5 : fr.eval (.tmp 5) = .pointer (some ⟨b5, 0, none⟩) := by rw [hfr.out]; rfl
    have hts : fr.tmps.size = 68 := by rw [hfr.out]; rfl
    refine region_S0 99 Try.mixed ?_
    intro w0 hkw hheap
    have HX0 := hide (hkw.blk HX15.out (fun h => h))
    have H50 := hide (hkw.blk H515.out (fun h => h))
    have HB0 := hide (hkw.blk HB15.out (fun h => h))
    have HT0 := hide (HT15.out.kept hkw)
    have HK0 := hide (HK15.out.trans hkw (fun _ _ h => h))
    have HS0 := hide (HS.out.kept HK0.out)
    clear HX15 H515 HB15 HT15 HK15
    have hS0 : Kept (fun _ => False) w0 w0 := Kept.refl (fun _ => False) w0
    refine ⟨Kept (fun _ => False) w0, ?_⟩
    refine tkS 0 49 (v := .pointer (some ⟨x, 0, none⟩)) hS0 rfl rfl (by kernel_rfl) (by kernel_rfl) (by kernel_rfl) (by kernel_rfl) (wanted_none rfl) (fun _ _ _ h => h) (fun U hU => r_move (by simp [eval_put_ne, eval_put_eq, size_put, hts, e4])) ?_
    refine tkS 1 50 (v := .pointer (some ⟨x, 0, none⟩)) hS0 rfl rfl (by kernel_rfl) (by kernel_rfl) (by kernel_rfl) (by kernel_rfl) (wanted_none rfl) (fun _ _ _ h => h) (fun U hU => r_nilck (b := x) (o := 0) (by simp [eval_put_ne, eval_put_eq, size_put, hts])) ?_
    refine tkS 2 51 (v := .pointer (some ⟨x, 1, none⟩)) hS0 rfl rfl (by kernel_rfl) (by kernel_rfl) (by kernel_rfl) (by kernel_rfl) (wanted_none rfl) (fun _ _ _ h => h) (fun U hU => r_fld55_1 (b := x) (by simp [eval_put_ne, eval_put_eq, size_put, hts])) ?_
    refine tkS 3 52 (v := .int .i64 E5) hS0 rfl rfl (by kernel_rfl) (by kernel_rfl) (by kernel_rfl) (by kernel_rfl) (wanted_none rfl) (fun _ _ _ h => h) (fun U hU => r_ld3 (b := x) (o := 1) (by simp [eval_put_ne, eval_put_eq, size_put, hts]) (((hS0).trans hU (fun _ _ h => h)).blk HX0.out (fun h => h) |>.cell 1)) ?_
    refine tkS 4 53 (v := .bool true) hS0 rfl rfl (by kernel_rfl) (by kernel_rfl) (by kernel_rfl) (by kernel_rfl) (wanted_none rfl) (fun _ _ _ h => h) (fun U hU => (r_neq3 (p := E5) (q := 0) (by simp [eval_put_ne, eval_put_eq, size_put, hts]) rfl).trans (by rw [HEd.out])) ?_
    refine tkS 5 54 (v := .bool true) hS0 rfl rfl (by kernel_rfl) (by kernel_rfl) (by kernel_rfl) (by kernel_rfl) (wanted_none rfl) (fun _ _ _ h => h) (fun U hU => r_move (by simp [eval_put_ne, eval_put_eq, size_put, hts])) ?_
    refine tkNS 6 55 hS0 rfl rfl (by kernel_rfl) (by kernel_rfl) (by kernel_rfl) (by kernel_rfl) (wanted_not (j := 5) (d := 54) (bb := false) rfl rfl rfl (by simp [eval_put_ne, eval_put_eq, size_put, hts]) (by simp [size_put, hts])) (fun _ _ _ h => h) ?_
    refine tkNS 7 56 hS0 rfl rfl (by kernel_rfl) (by kernel_rfl) (by kernel_rfl) (by kernel_rfl) (wanted_not (j := 5) (d := 54) (bb := false) rfl rfl rfl (by simp [eval_put_ne, eval_put_eq, size_put, hts]) (by simp [size_put, hts])) (fun _ _ _ h => h) ?_
    refine tkNS 8 57 hS0 rfl rfl (by kernel_rfl) (by kernel_rfl) (by kernel_rfl) (by kernel_rfl) (wanted_not (j := 5) (d := 54) (bb := false) rfl rfl rfl (by simp [eval_put_ne, eval_put_eq, size_put, hts]) (by simp [size_put, hts])) (fun _ _ _ h => h) ?_
    refine tkS 9 58 (v := .bool true) hS0 rfl rfl (by kernel_rfl) (by kernel_rfl) (by kernel_rfl) (by kernel_rfl) (wanted_none rfl) (fun _ _ _ h => h) (fun U hU => r_pick (by simp [eval_put_ne, eval_put_eq, size_put, hts]) rfl) ?_
    refine tkS 10 59 (v := .bool true) hS0 rfl rfl (by kernel_rfl) (by kernel_rfl) (by kernel_rfl) (by kernel_rfl) (wanted_none rfl) (fun _ _ _ h => h) (fun U hU => r_move (by simp [eval_put_ne, eval_put_eq, size_put, hts])) ?_
    refine tkNS 11 60 hS0 rfl rfl (by kernel_rfl) (by kernel_rfl) (by kernel_rfl) (by kernel_rfl) (wanted_not (j := 10) (d := 59) (bb := false) rfl rfl rfl (by simp [eval_put_ne, eval_put_eq, size_put, hts]) (by simp [size_put, hts])) (fun _ _ _ h => h) ?_
    refine tkNS 12 61 hS0 rfl rfl (by kernel_rfl) (by kernel_rfl) (by kernel_rfl) (by kernel_rfl) (wanted_not (j := 10) (d := 59) (bb := false) rfl rfl rfl (by simp [eval_put_ne, eval_put_eq, size_put, hts]) (by simp [size_put, hts])) (fun _ _ _ h => h) ?_
    refine tkNS 13 62 hS0 rfl rfl (by kernel_rfl) (by kernel_rfl) (by kernel_rfl) (by kernel_rfl) (wanted_not (j := 10) (d := 59) (bb := false) rfl rfl rfl (by simp [eval_put_ne, eval_put_eq, size_put, hts]) (by simp [size_put, hts])) (fun _ _ _ h => h) ?_
    refine tkNS 14 63 hS0 rfl rfl (by kernel_rfl) (by kernel_rfl) (by kernel_rfl) (by kernel_rfl) (wanted_not (j := 10) (d := 59) (bb := false) rfl rfl rfl (by simp [eval_put_ne, eval_put_eq, size_put, hts]) (by simp [size_put, hts])) (fun _ _ _ h => h) ?_
    refine tkNS 15 64 hS0 rfl rfl (by kernel_rfl) (by kernel_rfl) (by kernel_rfl) (by kernel_rfl) (wanted_not (j := 10) (d := 59) (bb := false) rfl rfl rfl (by simp [eval_put_ne, eval_put_eq, size_put, hts]) (by simp [size_put, hts])) (fun _ _ _ h => h) ?_
    refine tkS 16 65 (v := .bool true) hS0 rfl rfl (by kernel_rfl) (by kernel_rfl) (by kernel_rfl) (by kernel_rfl) (wanted_none rfl) (fun _ _ _ h => h) (fun U hU => r_pick (by simp [eval_put_ne, eval_put_eq, size_put, hts]) rfl) ?_
    refine doneS (by kernel_rfl) ?_
    rw [hfr.out]
    clear hfr e0 e4 e5 hts
    simp only [put_lit, put_none, List.set_cons_succ, List.set_cons_zero]
    have hkl := Kept.refl (fun _ => False) w0
    have HBl := hide (hkl.blk HB0.out (fun h => h))
    have H5l := hide (hkl.blk H50.out (fun h => h))
    have HTl := hide (HT0.out.kept hkl)
    have HKl := hide (HK0.out.trans hkl (fun _ _ h => h))
    clear hkl hS0 hkw hheap HX0 H50 HB0 HT0 HK0 HS0
    go_wp2_with (first
      | ((with_reducible refine wpList_run rfl r_build24_0 ?_))
      | ((with_reducible refine aw_store (x := .tmp 2) (M := frV fr0 (.slice none 0 0)) Try.agg51 rfl rfl rfl HO.out HBl.out (by simp [Value.cells, frV]) ?_); intro wz hwz hkz hzz; rw [put_whole _ _ (by simp [Value.cells, frV])] at hwz)
      | fail)
    refine bodyPost_ret (results_cell2 (t := 2) (u := 3) (ty := 51) rfl Try.agg51 rfl hwz rfl) rfl ?_
    rw [Hfin.out]
    exact ⟨_, rfl, Src.nil _, HKl.out.trans hkz (fun i hi h => by have := HWr.out; omega)⟩
  case pos =>
  have HEd : Hid (decide (E5 ≠ 0) = false) := hide (by simp [hE])
  have HE := hide hE
  clear hE
  cases hrt : rightN f with
  | false =>
    have Hrt := hide hrt
    have Hfin : Hid (refGetN b = (fr0, 20)) := hide (by rw [Hrg.out, if_pos (.inr (.inl Hrt.out))])
    clear hrt
    refine hold_frame (p := fun fr => Code.wp Try.prog _ _ fr _) ?_
    intro fr hfr
    have e0 : fr.eval (.tmp 0) = .slice (some ⟨sb, so, none⟩) 64 cap := by rw [hfr.out]; rfl
    have e4 : fr.eval (.tmp 4) = .pointer (some ⟨x, 0, none⟩) := by rw [hfr.out]; rfl
    have e5 : fr.eval (.tmp 5) = .pointer (some ⟨b5, 0, none⟩) := by rw [hfr.out]; rfl
    have hts : fr.tmps.size = 68 := by rw [hfr.out]; rfl
    refine region_S0 99 Try.mixed ?_
    intro w0 hkw hheap
    have HX0 := hide (hkw.blk HX15.out (fun h => h))
    have H50 := hide (hkw.blk H515.out (fun h => h))
    have HB0 := hide (hkw.blk HB15.out (fun h => h))
    have HT0 := hide (HT15.out.kept hkw)
    have HK0 := hide (HK15.out.trans hkw (fun _ _ h => h))
    have HS0 := hide (HS.out.kept HK0.out)
    clear HX15 H515 HB15 HT15 HK15
    have hS0 : Kept (fun _ => False) w0 w0 := Kept.refl (fun _ => False) w0
    refine ⟨Kept (fun _ => False) w0, ?_⟩
    refine tkS 0 49 (v := .pointer (some ⟨x, 0, none⟩)) hS0 rfl rfl (by kernel_rfl) (by kernel_rfl) (by kernel_rfl) (by kernel_rfl) (wanted_none rfl) (fun _ _ _ h => h) (fun U hU => r_move (by simp [eval_put_ne, eval_put_eq, size_put, hts, e4])) ?_
    refine tkS 1 50 (v := .pointer (some ⟨x, 0, none⟩)) hS0 rfl rfl (by kernel_rfl) (by kernel_rfl) (by kernel_rfl) (by kernel_rfl) (wanted_none rfl) (fun _ _ _ h => h) (fun U hU => r_nilck (b := x) (o := 0) (by simp [eval_put_ne, eval_put_eq, size_put, hts])) ?_
    refine tkS 2 51 (v := .pointer (some ⟨x, 1, none⟩)) hS0 rfl rfl (by kernel_rfl) (by kernel_rfl) (by kernel_rfl) (by kernel_rfl) (wanted_none rfl) (fun _ _ _ h => h) (fun U hU => r_fld55_1 (b := x) (by simp [eval_put_ne, eval_put_eq, size_put, hts])) ?_
    refine tkS 3 52 (v := .int .i64 E5) hS0 rfl rfl (by kernel_rfl) (by kernel_rfl) (by kernel_rfl) (by kernel_rfl) (wanted_none rfl) (fun _ _ _ h => h) (fun U hU => r_ld3 (b := x) (o := 1) (by simp [eval_put_ne, eval_put_eq, size_put, hts]) (((hS0).trans hU (fun _ _ h => h)).blk HX0.out (fun h => h) |>.cell 1)) ?_
    refine tkS 4 53 (v := .bool false) hS0 rfl rfl (by kernel_rfl) (by kernel_rfl) (by kernel_rfl) (by kernel_rfl) (wanted_none rfl) (fun _ _ _ h => h) (fun U hU => (r_neq3 (p := E5) (q := 0) (by simp [eval_put_ne, eval_put_eq, size_put, hts]) rfl).trans (by rw [HEd.out])) ?_
    refine tkS 5 54 (v := .bool false) hS0 rfl rfl (by kernel_rfl) (by kernel_rfl) (by kernel_rfl) (by kernel_rfl) (wanted_none rfl) (fun _ _ _ h => h) (fun U hU => r_move (by simp [eval_put_ne, eval_put_eq, size_put, hts])) ?_
    refine tkS 6 55 (v := frAgg f (.slice (some ⟨gt, 0, none⟩) lt ct)) hS0 rfl rfl (by kernel_rfl) (by kernel_rfl) (by kernel_rfl) (by kernel_rfl) (wanted_some (j := 5) (d := 54) (bb := false) rfl rfl rfl (by simp [eval_put_ne, eval_put_eq, size_put, hts]) (by simp [size_put, hts])) (fun _ _ _ h => h) (fun U hU => run_load24 (by simp [eval_put_ne, eval_put_eq, size_put, hts, e5]) (((hS0).trans hU (fun _ _ h => h)).blk H50.out (fun h => h))) ?_
    refine oneCS 7 56 (by kernel_rfl) rfl rfl (wanted_some (j := 5) (d := 54) (bb := false) rfl rfl rfl (by simp [eval_put_ne, eval_put_eq, size_put, hts]) (by simp [size_put, hts])) (r_call1 Try.func48 (by kernel_rfl) rfl rfl (by simp [eval_put_ne, eval_put_eq, size_put, hts])) (rright_at w0 f (.slice (some ⟨gt, 0, none⟩) lt ct) ⟨_, _, by rw [HfB.out]⟩) ?_
    rintro e u1 ⟨rfl, hk1⟩
    rw [Hrt.out]
    refine ⟨_, rfl, hk1, ?_⟩
    refine raiseM (S' := Kept (fun _ => False) u1) (fun U hU => hk1.trans hU (fun _ _ h => h)) ?_
    have hS1 : (Kept (fun _ => False) u1) _ := Kept.refl _ _
    refine tkS 8 57 (v := .bool true) hS1 rfl rfl (by kernel_rfl) (by kernel_rfl) (by kernel_rfl) (by kernel_rfl) (wanted_some (j := 5) (d := 54) (bb := false) rfl rfl rfl (by simp [eval_put_ne, eval_put_eq, size_put, hts]) (by simp [size_put, hts])) (fun _ _ _ h => h) (fun U hU => r_not (b := false) (by simp [eval_put_ne, eval_put_eq, size_put, hts])) ?_
    refine tkS 9 58 (v := .bool true) hS1 rfl rfl (by kernel_rfl) (by kernel_rfl) (by kernel_rfl) (by kernel_rfl) (wanted_none rfl) (fun _ _ _ h => h) (fun U hU => r_pickF (by simp [eval_put_ne, eval_put_eq, size_put, hts]) (by simp [eval_put_ne, eval_put_eq, size_put, hts])) ?_
    refine tkS 10 59 (v := .bool true) hS1 rfl rfl (by kernel_rfl) (by kernel_rfl) (by kernel_rfl) (by kernel_rfl) (wanted_none rfl) (fun _ _ _ h => h) (fun U hU => r_move (by simp [eval_put_ne, eval_put_eq, size_put, hts])) ?_
    refine tkNS 11 60 hS1 rfl rfl (by kernel_rfl) (by kernel_rfl) (by kernel_rfl) (by kernel_rfl) (wanted_not (j := 10) (d := 59) (bb := false) rfl rfl rfl (by simp [eval_put_ne, eval_put_eq, size_put, hts]) (by simp [size_put, hts])) (fun _ _ _ h => h) ?_
    refine tkNS 12 61 hS1 rfl rfl (by kernel_rfl) (by kernel_rfl) (by kernel_rfl) (by kernel_rfl) (wanted_not (j := 10) (d := 59) (bb := false) rfl rfl rfl (by simp [eval_put_ne, eval_put_eq, size_put, hts]) (by simp [size_put, hts])) (fun _ _ _ h => h) ?_
    refine tkNS 13 62 hS1 rfl rfl (by kernel_rfl) (by kernel_rfl) (by kernel_rfl) (by kernel_rfl) (wanted_not (j := 10) (d := 59) (bb := false) rfl rfl rfl (by simp [eval_put_ne, eval_put_eq, size_put, hts]) (by simp [size_put, hts])) (fun _ _ _ h => h) ?_
    refine tkNS 14 63 hS1 rfl rfl (by kernel_rfl) (by kernel_rfl) (by kernel_rfl) (by kernel_rfl) (wanted_not (j := 10) (d := 59) (bb := false) rfl rfl rfl (by simp [eval_put_ne, eval_put_eq, size_put, hts]) (by simp [size_put, hts])) (fun _ _ _ h => h) ?_
    refine tkNS 15 64 hS1 rfl rfl (by kernel_rfl) (by kernel_rfl) (by kernel_rfl) (by kernel_rfl) (wanted_not (j := 10) (d := 59) (bb := false) rfl rfl rfl (by simp [eval_put_ne, eval_put_eq, size_put, hts]) (by simp [size_put, hts])) (fun _ _ _ h => h) ?_
    refine tkS 16 65 (v := .bool true) hS1 rfl rfl (by kernel_rfl) (by kernel_rfl) (by kernel_rfl) (by kernel_rfl) (wanted_none rfl) (fun _ _ _ h => h) (fun U hU => r_pick (by simp [eval_put_ne, eval_put_eq, size_put, hts]) rfl) ?_
    refine doneS (by kernel_rfl) ?_
    rw [hfr.out]
    clear hfr e0 e4 e5 hts
    simp only [put_lit, put_none, List.set_cons_succ, List.set_cons_zero]
    have hkl := hk1
    have HBl := hide (hkl.blk HB0.out (fun h => h))
    have H5l := hide (hkl.blk H50.out (fun h => h))
    have HTl := hide (HT0.out.kept hkl)
    have HKl := hide (HK0.out.trans hkl (fun _ _ h => h))
    clear hkl hS0 hkw hheap HX0 H50 HB0 HT0 HK0 HS0 hS1 hk1
    go_wp2_with (first
      | ((with_reducible refine wpList_run rfl r_build24_0 ?_))
      | ((with_reducible refine aw_store (x := .tmp 2) (M := frV fr0 (.slice none 0 0)) Try.agg51 rfl rfl rfl HO.out HBl.out (by simp [Value.cells, frV]) ?_); intro wz hwz hkz hzz; rw [put_whole _ _ (by simp [Value.cells, frV])] at hwz)
      | fail)
    refine bodyPost_ret (results_cell2 (t := 2) (u := 3) (ty := 51) rfl Try.agg51 rfl hwz rfl) rfl ?_
    rw [Hfin.out]
    exact ⟨_, rfl, Src.nil _, HKl.out.trans hkz (fun i hi h => by have := HWr.out; omega)⟩
  | true =>
  have Hrt := hide hrt
  clear hrt
  have H40 := hide ((rightN_iff f).1 Hrt.out).2.2.2.2.1
  by_cases hp : putN f = b
  case neg =>
    have HPd : Hid (decide (strN (putN f) ≠ strN b) = true) := hide (by simp; exact fun h => hp ((strN_iff (putN_lt f H40.out Hflt.out) Hbyte.out).1 h))
    have Hfin : Hid (refGetN b = (fr0, 20)) := hide (by rw [Hrg.out, if_pos (.inr (.inr hp))])
    clear hp
    refine hold_frame (p := fun fr => Code.wp Try.prog _ _ fr _) ?_
    intro fr hfr
    have e0 : fr.eval (.tmp 0) = .slice (some ⟨sb, so, none⟩) 64 cap := by rw [hfr.out]; rfl
    have e4 : fr.eval (.tmp 4) = .pointer (some ⟨x, 0, none⟩) := by rw [hfr.out]; rfl
    have e5 : fr.eval (.tmp 5) = .pointer (some ⟨b5, 0, none⟩) := by rw [hfr.out]; rfl
    have hts : fr.tmps.size = 68 := by rw [hfr.out]; rfl
    refine region_S0 99 Try.mixed ?_
    intro w0 hkw hheap
    have HX0 := hide (hkw.blk HX15.out (fun h => h))
    have H50 := hide (hkw.blk H515.out (fun h => h))
    have HB0 := hide (hkw.blk HB15.out (fun h => h))
    have HT0 := hide (HT15.out.kept hkw)
    have HK0 := hide (HK15.out.trans hkw (fun _ _ h => h))
    have HS0 := hide (HS.out.kept HK0.out)
    clear HX15 H515 HB15 HT15 HK15
    have hS0 : Kept (fun _ => False) w0 w0 := Kept.refl (fun _ => False) w0
    refine ⟨Kept (fun _ => False) w0, ?_⟩
    refine tkS 0 49 (v := .pointer (some ⟨x, 0, none⟩)) hS0 rfl rfl (by kernel_rfl) (by kernel_rfl) (by kernel_rfl) (by kernel_rfl) (wanted_none rfl) (fun _ _ _ h => h) (fun U hU => r_move (by simp [eval_put_ne, eval_put_eq, size_put, hts, e4])) ?_
    refine tkS 1 50 (v := .pointer (some ⟨x, 0, none⟩)) hS0 rfl rfl (by kernel_rfl) (by kernel_rfl) (by kernel_rfl) (by kernel_rfl) (wanted_none rfl) (fun _ _ _ h => h) (fun U hU => r_nilck (b := x) (o := 0) (by simp [eval_put_ne, eval_put_eq, size_put, hts])) ?_
    refine tkS 2 51 (v := .pointer (some ⟨x, 1, none⟩)) hS0 rfl rfl (by kernel_rfl) (by kernel_rfl) (by kernel_rfl) (by kernel_rfl) (wanted_none rfl) (fun _ _ _ h => h) (fun U hU => r_fld55_1 (b := x) (by simp [eval_put_ne, eval_put_eq, size_put, hts])) ?_
    refine tkS 3 52 (v := .int .i64 E5) hS0 rfl rfl (by kernel_rfl) (by kernel_rfl) (by kernel_rfl) (by kernel_rfl) (wanted_none rfl) (fun _ _ _ h => h) (fun U hU => r_ld3 (b := x) (o := 1) (by simp [eval_put_ne, eval_put_eq, size_put, hts]) (((hS0).trans hU (fun _ _ h => h)).blk HX0.out (fun h => h) |>.cell 1)) ?_
    refine tkS 4 53 (v := .bool false) hS0 rfl rfl (by kernel_rfl) (by kernel_rfl) (by kernel_rfl) (by kernel_rfl) (wanted_none rfl) (fun _ _ _ h => h) (fun U hU => (r_neq3 (p := E5) (q := 0) (by simp [eval_put_ne, eval_put_eq, size_put, hts]) rfl).trans (by rw [HEd.out])) ?_
    refine tkS 5 54 (v := .bool false) hS0 rfl rfl (by kernel_rfl) (by kernel_rfl) (by kernel_rfl) (by kernel_rfl) (wanted_none rfl) (fun _ _ _ h => h) (fun U hU => r_move (by simp [eval_put_ne, eval_put_eq, size_put, hts])) ?_
    refine tkS 6 55 (v := frAgg f (.slice (some ⟨gt, 0, none⟩) lt ct)) hS0 rfl rfl (by kernel_rfl) (by kernel_rfl) (by kernel_rfl) (by kernel_rfl) (wanted_some (j := 5) (d := 54) (bb := false) rfl rfl rfl (by simp [eval_put_ne, eval_put_eq, size_put, hts]) (by simp [size_put, hts])) (fun _ _ _ h => h) (fun U hU => run_load24 (by simp [eval_put_ne, eval_put_eq, size_put, hts, e5]) (((hS0).trans hU (fun _ _ h => h)).blk H50.out (fun h => h))) ?_
    refine oneCS 7 56 (by kernel_rfl) rfl rfl (wanted_some (j := 5) (d := 54) (bb := false) rfl rfl rfl (by simp [eval_put_ne, eval_put_eq, size_put, hts]) (by simp [size_put, hts])) (r_call1 Try.func48 (by kernel_rfl) rfl rfl (by simp [eval_put_ne, eval_put_eq, size_put, hts])) (rright_at w0 f (.slice (some ⟨gt, 0, none⟩) lt ct) ⟨_, _, by rw [HfB.out]⟩) ?_
    rintro e u1 ⟨rfl, hk1⟩
    rw [Hrt.out]
    refine ⟨_, rfl, hk1, ?_⟩
    refine raiseM (S' := Kept (fun _ => False) u1) (fun U hU => hk1.trans hU (fun _ _ h => h)) ?_
    have hS1 : (Kept (fun _ => False) u1) _ := Kept.refl _ _
    refine tkS 8 57 (v := .bool false) hS1 rfl rfl (by kernel_rfl) (by kernel_rfl) (by kernel_rfl) (by kernel_rfl) (wanted_some (j := 5) (d := 54) (bb := false) rfl rfl rfl (by simp [eval_put_ne, eval_put_eq, size_put, hts]) (by simp [size_put, hts])) (fun _ _ _ h => h) (fun U hU => r_not (b := true) (by simp [eval_put_ne, eval_put_eq, size_put, hts])) ?_
    refine tkS 9 58 (v := .bool false) hS1 rfl rfl (by kernel_rfl) (by kernel_rfl) (by kernel_rfl) (by kernel_rfl) (wanted_none rfl) (fun _ _ _ h => h) (fun U hU => r_pickF (by simp [eval_put_ne, eval_put_eq, size_put, hts]) (by simp [eval_put_ne, eval_put_eq, size_put, hts])) ?_
    refine tkS 10 59 (v := .bool false) hS1 rfl rfl (by kernel_rfl) (by kernel_rfl) (by kernel_rfl) (by kernel_rfl) (wanted_none rfl) (fun _ _ _ h => h) (fun U hU => r_move (by simp [eval_put_ne, eval_put_eq, size_put, hts])) ?_
    refine tkS 11 60 (v := frAgg f (.slice (some ⟨gt, 0, none⟩) lt ct)) hS1 rfl rfl (by kernel_rfl) (by kernel_rfl) (by kernel_rfl) (by kernel_rfl) (wanted_some (j := 10) (d := 59) (bb := false) rfl rfl rfl (by simp [eval_put_ne, eval_put_eq, size_put, hts]) (by simp [size_put, hts])) (fun _ _ _ h => h) (fun U hU => run_load24 (by simp [eval_put_ne, eval_put_eq, size_put, hts, e5]) (((hk1).trans hU (fun _ _ h => h)).blk H50.out (fun h => h))) ?_
    refine tkS 13 62 (v := .slice (some ⟨sb, so, none⟩) 64 cap) hS1 rfl rfl (by kernel_rfl) (by kernel_rfl) (by kernel_rfl) (by kernel_rfl) (wanted_some (j := 10) (d := 59) (bb := false) rfl rfl rfl (by simp [eval_put_ne, eval_put_eq, size_put, hts]) (by simp [size_put, hts])) (fun _ _ _ h => h) (fun U hU => r_move (by simp [eval_put_ne, eval_put_eq, size_put, hts, e0])) ?_
    refine tkS 14 63 (v := .string (strN b)) hS1 rfl rfl (by kernel_rfl) (by kernel_rfl) (by kernel_rfl) (by kernel_rfl) (wanted_some (j := 10) (d := 59) (bb := false) rfl rfl rfl (by simp [eval_put_ne, eval_put_eq, size_put, hts]) (by simp [size_put, hts])) (fun _ _ _ h => h) (fun U hU => r_strS (by simp [eval_put_ne, eval_put_eq, size_put, hts]) ((HS0.out.kept (hk1)).kept hU)) ?_
    refine oneCS 12 61 (by kernel_rfl) rfl rfl (wanted_some (j := 10) (d := 59) (bb := false) rfl rfl rfl (by simp [eval_put_ne, eval_put_eq, size_put, hts]) (by simp [size_put, hts])) (r_call1 Try.func20 (by kernel_rfl) rfl rfl (by simp [eval_put_ne, eval_put_eq, size_put, hts])) (rput_at u1 f (.slice (some ⟨gt, 0, none⟩) lt ct) (HT0.out.kept hk1) Hrt.out) ?_
    rintro e u2 ⟨rfl, hk2⟩
    refine ⟨_, rfl, hk2, ?_⟩
    have hk12 := hk1.trans hk2 (fun _ _ h => h)
    refine raiseM (S' := Kept (fun _ => False) u2) (fun U hU => hk2.trans hU (fun _ _ h => h)) ?_
    have hS2 : (Kept (fun _ => False) u2) _ := Kept.refl _ _
    refine tkS 15 64 (v := .bool true) hS2 rfl rfl (by kernel_rfl) (by kernel_rfl) (by kernel_rfl) (by kernel_rfl) (wanted_some (j := 10) (d := 59) (bb := false) rfl rfl rfl (by simp [eval_put_ne, eval_put_eq, size_put, hts]) (by simp [size_put, hts])) (fun _ _ _ h => h) (fun U hU => (r_neq9 (p := strN (putN f)) (q := strN b) (by simp [eval_put_ne, eval_put_eq, size_put, hts]) (by simp [eval_put_ne, eval_put_eq, size_put, hts])).trans (by rw [HPd.out])) ?_
    refine tkS 16 65 (v := .bool true) hS2 rfl rfl (by kernel_rfl) (by kernel_rfl) (by kernel_rfl) (by kernel_rfl) (wanted_none rfl) (fun _ _ _ h => h) (fun U hU => r_pickF (by simp [eval_put_ne, eval_put_eq, size_put, hts]) (by simp [eval_put_ne, eval_put_eq, size_put, hts])) ?_
    refine doneS (by kernel_rfl) ?_
    rw [hfr.out]
    clear hfr e0 e4 e5 hts
    simp only [put_lit, put_none, List.set_cons_succ, List.set_cons_zero]
    have hkl := hk12
    have HBl := hide (hkl.blk HB0.out (fun h => h))
    have H5l := hide (hkl.blk H50.out (fun h => h))
    have HTl := hide (HT0.out.kept hkl)
    have HKl := hide (HK0.out.trans hkl (fun _ _ h => h))
    clear hkl hS0 hkw hheap HX0 H50 HB0 HT0 HK0 HS0 hS1 hk1 hS2 hk2 hk12
    go_wp2_with (first
      | ((with_reducible refine wpList_run rfl r_build24_0 ?_))
      | ((with_reducible refine aw_store (x := .tmp 2) (M := frV fr0 (.slice none 0 0)) Try.agg51 rfl rfl rfl HO.out HBl.out (by simp [Value.cells, frV]) ?_); intro wz hwz hkz hzz; rw [put_whole _ _ (by simp [Value.cells, frV])] at hwz)
      | fail)
    refine bodyPost_ret (results_cell2 (t := 2) (u := 3) (ty := 51) rfl Try.agg51 rfl hwz rfl) rfl ?_
    rw [Hfin.out]
    exact ⟨_, rfl, Src.nil _, HKl.out.trans hkz (fun i hi h => by have := HWr.out; omega)⟩
  case pos =>
  have HPd : Hid (decide (strN (putN f) ≠ strN b) = false) := hide (by simp [hp])
  have Hfin : Hid (refGetN b = (f, 0)) := hide (by rw [Hrg.out, if_neg (by simp only [not_or, Decidable.not_not, Bool.not_eq_false]; exact ⟨HE.out, Hrt.out, hp⟩)])
  clear hp
  refine hold_frame (p := fun fr => Code.wp Try.prog _ _ fr _) ?_
  intro fr hfr
  have e0 : fr.eval (.tmp 0) = .slice (some ⟨sb, so, none⟩) 64 cap := by rw [hfr.out]; rfl
  have e4 : fr.eval (.tmp 4) = .pointer (some ⟨x, 0, none⟩) := by rw [hfr.out]; rfl
  have e5 : fr.eval (.tmp 5) = .pointer (some ⟨b5, 0, none⟩) := by rw [hfr.out]; rfl
  have hts : fr.tmps.size = 68 := by rw [hfr.out]; rfl
  refine region_S0 99 Try.mixed ?_
  intro w0 hkw hheap
  have HX0 := hide (hkw.blk HX15.out (fun h => h))
  have H50 := hide (hkw.blk H515.out (fun h => h))
  have HB0 := hide (hkw.blk HB15.out (fun h => h))
  have HT0 := hide (HT15.out.kept hkw)
  have HK0 := hide (HK15.out.trans hkw (fun _ _ h => h))
  have HS0 := hide (HS.out.kept HK0.out)
  clear HX15 H515 HB15 HT15 HK15
  have hS0 : Kept (fun _ => False) w0 w0 := Kept.refl (fun _ => False) w0
  refine ⟨Kept (fun _ => False) w0, ?_⟩
  refine tkS 0 49 (v := .pointer (some ⟨x, 0, none⟩)) hS0 rfl rfl (by kernel_rfl) (by kernel_rfl) (by kernel_rfl) (by kernel_rfl) (wanted_none rfl) (fun _ _ _ h => h) (fun U hU => r_move (by simp [eval_put_ne, eval_put_eq, size_put, hts, e4])) ?_
  refine tkS 1 50 (v := .pointer (some ⟨x, 0, none⟩)) hS0 rfl rfl (by kernel_rfl) (by kernel_rfl) (by kernel_rfl) (by kernel_rfl) (wanted_none rfl) (fun _ _ _ h => h) (fun U hU => r_nilck (b := x) (o := 0) (by simp [eval_put_ne, eval_put_eq, size_put, hts])) ?_
  refine tkS 2 51 (v := .pointer (some ⟨x, 1, none⟩)) hS0 rfl rfl (by kernel_rfl) (by kernel_rfl) (by kernel_rfl) (by kernel_rfl) (wanted_none rfl) (fun _ _ _ h => h) (fun U hU => r_fld55_1 (b := x) (by simp [eval_put_ne, eval_put_eq, size_put, hts])) ?_
  refine tkS 3 52 (v := .int .i64 E5) hS0 rfl rfl (by kernel_rfl) (by kernel_rfl) (by kernel_rfl) (by kernel_rfl) (wanted_none rfl) (fun _ _ _ h => h) (fun U hU => r_ld3 (b := x) (o := 1) (by simp [eval_put_ne, eval_put_eq, size_put, hts]) (((hS0).trans hU (fun _ _ h => h)).blk HX0.out (fun h => h) |>.cell 1)) ?_
  refine tkS 4 53 (v := .bool false) hS0 rfl rfl (by kernel_rfl) (by kernel_rfl) (by kernel_rfl) (by kernel_rfl) (wanted_none rfl) (fun _ _ _ h => h) (fun U hU => (r_neq3 (p := E5) (q := 0) (by simp [eval_put_ne, eval_put_eq, size_put, hts]) rfl).trans (by rw [HEd.out])) ?_
  refine tkS 5 54 (v := .bool false) hS0 rfl rfl (by kernel_rfl) (by kernel_rfl) (by kernel_rfl) (by kernel_rfl) (wanted_none rfl) (fun _ _ _ h => h) (fun U hU => r_move (by simp [eval_put_ne, eval_put_eq, size_put, hts])) ?_
  refine tkS 6 55 (v := frAgg f (.slice (some ⟨gt, 0, none⟩) lt ct)) hS0 rfl rfl (by kernel_rfl) (by kernel_rfl) (by kernel_rfl) (by kernel_rfl) (wanted_some (j := 5) (d := 54) (bb := false) rfl rfl rfl (by simp [eval_put_ne, eval_put_eq, size_put, hts]) (by simp [size_put, hts])) (fun _ _ _ h => h) (fun U hU => run_load24 (by simp [eval_put_ne, eval_put_eq, size_put, hts, e5]) (((hS0).trans hU (fun _ _ h => h)).blk H50.out (fun h => h))) ?_
  refine oneCS 7 56 (by kernel_rfl) rfl rfl (wanted_some (j := 5) (d := 54) (bb := false) rfl rfl rfl (by simp [eval_put_ne, eval_put_eq, size_put, hts]) (by simp [size_put, hts])) (r_call1 Try.func48 (by kernel_rfl) rfl rfl (by simp [eval_put_ne, eval_put_eq, size_put, hts])) (rright_at w0 f (.slice (some ⟨gt, 0, none⟩) lt ct) ⟨_, _, by rw [HfB.out]⟩) ?_
  rintro e u1 ⟨rfl, hk1⟩
  rw [Hrt.out]
  refine ⟨_, rfl, hk1, ?_⟩
  refine raiseM (S' := Kept (fun _ => False) u1) (fun U hU => hk1.trans hU (fun _ _ h => h)) ?_
  have hS1 : (Kept (fun _ => False) u1) _ := Kept.refl _ _
  refine tkS 8 57 (v := .bool false) hS1 rfl rfl (by kernel_rfl) (by kernel_rfl) (by kernel_rfl) (by kernel_rfl) (wanted_some (j := 5) (d := 54) (bb := false) rfl rfl rfl (by simp [eval_put_ne, eval_put_eq, size_put, hts]) (by simp [size_put, hts])) (fun _ _ _ h => h) (fun U hU => r_not (b := true) (by simp [eval_put_ne, eval_put_eq, size_put, hts])) ?_
  refine tkS 9 58 (v := .bool false) hS1 rfl rfl (by kernel_rfl) (by kernel_rfl) (by kernel_rfl) (by kernel_rfl) (wanted_none rfl) (fun _ _ _ h => h) (fun U hU => r_pickF (by simp [eval_put_ne, eval_put_eq, size_put, hts]) (by simp [eval_put_ne, eval_put_eq, size_put, hts])) ?_
  refine tkS 10 59 (v := .bool false) hS1 rfl rfl (by kernel_rfl) (by kernel_rfl) (by kernel_rfl) (by kernel_rfl) (wanted_none rfl) (fun _ _ _ h => h) (fun U hU => r_move (by simp [eval_put_ne, eval_put_eq, size_put, hts])) ?_
  refine tkS 11 60 (v := frAgg f (.slice (some ⟨gt, 0, none⟩) lt ct)) hS1 rfl rfl (by kernel_rfl) (by kernel_rfl) (by kernel_rfl) (by kernel_rfl) (wanted_some (j := 10) (d := 59) (bb := false) rfl rfl rfl (by simp [eval_put_ne, eval_put_eq, size_put, hts]) (by simp [size_put, hts])) (fun _ _ _ h => h) (fun U hU => run_load24 (by simp [eval_put_ne, eval_put_eq, size_put, hts, e5]) (((hk1).trans hU (fun _ _ h => h)).blk H50.out (fun h => h))) ?_
  refine tkS 13 62 (v := .slice (some ⟨sb, so, none⟩) 64 cap) hS1 rfl rfl (by kernel_rfl) (by kernel_rfl) (by kernel_rfl) (by kernel_rfl) (wanted_some (j := 10) (d := 59) (bb := false) rfl rfl rfl (by simp [eval_put_ne, eval_put_eq, size_put, hts]) (by simp [size_put, hts])) (fun _ _ _ h => h) (fun U hU => r_move (by simp [eval_put_ne, eval_put_eq, size_put, hts, e0])) ?_
  refine tkS 14 63 (v := .string (strN b)) hS1 rfl rfl (by kernel_rfl) (by kernel_rfl) (by kernel_rfl) (by kernel_rfl) (wanted_some (j := 10) (d := 59) (bb := false) rfl rfl rfl (by simp [eval_put_ne, eval_put_eq, size_put, hts]) (by simp [size_put, hts])) (fun _ _ _ h => h) (fun U hU => r_strS (by simp [eval_put_ne, eval_put_eq, size_put, hts]) ((HS0.out.kept (hk1)).kept hU)) ?_
  refine oneCS 12 61 (by kernel_rfl) rfl rfl (wanted_some (j := 10) (d := 59) (bb := false) rfl rfl rfl (by simp [eval_put_ne, eval_put_eq, size_put, hts]) (by simp [size_put, hts])) (r_call1 Try.func20 (by kernel_rfl) rfl rfl (by simp [eval_put_ne, eval_put_eq, size_put, hts])) (rput_at u1 f (.slice (some ⟨gt, 0, none⟩) lt ct) (HT0.out.kept hk1) Hrt.out) ?_
  rintro e u2 ⟨rfl, hk2⟩
  refine ⟨_, rfl, hk2, ?_⟩
  have hk12 := hk1.trans hk2 (fun _ _ h => h)
  refine raiseM (S' := Kept (fun _ => False) u2) (fun U hU => hk2.trans hU (fun _ _ h => h)) ?_
  have hS2 : (Kept (fun _ => False) u2) _ := Kept.refl _ _
  refine tkS 15 64 (v := .bool false) hS2 rfl rfl (by kernel_rfl) (by kernel_rfl) (by kernel_rfl) (by kernel_rfl) (wanted_some (j := 10) (d := 59) (bb := false) rfl rfl rfl (by simp [eval_put_ne, eval_put_eq, size_put, hts]) (by simp [size_put, hts])) (fun _ _ _ h => h) (fun U hU => (r_neq9 (p := strN (putN f)) (q := strN b) (by simp [eval_put_ne, eval_put_eq, size_put, hts]) (by simp [eval_put_ne, eval_put_eq, size_put, hts])).trans (by rw [HPd.out])) ?_
  refine tkS 16 65 (v := .bool false) hS2 rfl rfl (by kernel_rfl) (by kernel_rfl) (by kernel_rfl) (by kernel_rfl) (wanted_none rfl) (fun _ _ _ h => h) (fun U hU => r_pickF (by simp [eval_put_ne, eval_put_eq, size_put, hts]) (by simp [eval_put_ne, eval_put_eq, size_put, hts])) ?_
  refine doneS (by kernel_rfl) ?_
  rw [hfr.out]
  clear hfr e0 e4 e5 hts
  simp only [put_lit, put_none, List.set_cons_succ, List.set_cons_zero]
  have hkl := hk12
  have HBl := hide (hkl.blk HB0.out (fun h => h))
  have H5l := hide (hkl.blk H50.out (fun h => h))
  have HTl := hide (HT0.out.kept hkl)
  have HKl := hide (HK0.out.trans hkl (fun _ _ h => h))
  clear hkl hS0 hkw hheap HX0 H50 HB0 HT0 HK0 HS0 hS1 hk1 hS2 hk2 hk12
  have HOf := hide (frV_one f (some ⟨gt, 0, none⟩) lt ct)
  go_wp2_with (first
    | (with_reducible refine aw_load (x := .tmp 5) (M := frV f (.slice (some ⟨gt, 0, none⟩) lt ct)) Try.agg51 rfl H5l.out (by simp [frV]) rfl ?_)
    | ((with_reducible refine aw_store (x := .tmp 2) (M := frV f (.slice (some ⟨gt, 0, none⟩) lt ct)) Try.agg51 rfl rfl rfl HOf.out HBl.out (by simp [frV]) ?_); intro wz hwz hkz hzz; rw [put_whole _ _ (by simp [frV])] at hwz)
    | fail)
  refine bodyPost_ret (results_cell2 (t := 2) (u := 3) (ty := 51) rfl Try.agg51 rfl hwz rfl) rfl ?_
  rw [Hfin.out]
  exact ⟨_, rfl, HTl.out.keptBut hkz (fun q hq => nobyte24 HBl.out q hq), HKl.out.trans hkz (fun i hi h => by have := HWr.out; omega)⟩
end Go.Proofs.Ytapoagpkjngjpaa
