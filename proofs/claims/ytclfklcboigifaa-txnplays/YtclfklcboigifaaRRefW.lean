/-
  SameWrites, of the reference.
-/
import Derived.Test.YtclfklcboigifaaRSame
namespace Go.Proofs.Ytclfklcboigifaa
open Go.RowKit Go.Shelf
set_option linter.unusedSimpArgs false
set_option linter.unusedVariables false
set_option maxRecDepth 100000

section
variable {ρ : Operand → Value} {w : World} {dst : Option Tmp} {ty : TypeId} {pos : String} {aft : Array Edge} {gd : Option (Nat × Bool)} {x y z : Operand}
theorem r_ld3 {b o : Nat} {v : Value} (hx : ρ x = .pointer (some ⟨b, o, none⟩)) (hc : w.cell? ⟨b, o, none⟩ = some v) : (execOp ρ ⟨dst, .load 3 x, ty, pos, aft, gd⟩).run Try.prog w = .ok (.value v) w := by
  go_simp
theorem r_ld25 {b o : Nat} {v : Value} (hx : ρ x = .pointer (some ⟨b, o, none⟩)) (hc : w.cell? ⟨b, o, none⟩ = some v) : (execOp ρ ⟨dst, .load 40 x, ty, pos, aft, gd⟩).run Try.prog w = .ok (.value v) w := by
  go_simp
theorem r_f40_0 {b o : Nat} (hx : ρ x = .pointer (some ⟨b, o, none⟩)) : (execOp ρ ⟨dst, .fieldAddr 63 x 0, ty, pos, aft, gd⟩).run Try.prog w = .ok (.value (.pointer (some ⟨b, o, none⟩))) w := by
  go_simp
theorem r_f40_1 {b o : Nat} (hx : ρ x = .pointer (some ⟨b, o, none⟩)) : (execOp ρ ⟨dst, .fieldAddr 63 x 1, ty, pos, aft, gd⟩).run Try.prog w = .ok (.value (.pointer (some ⟨b, o + 1, none⟩))) w := by
  go_simp
theorem r_ix22 {b off len cap : Nat} (i : Nat) {kk : IntKind} (hx : ρ x = .slice (some ⟨b, off, none⟩) len cap) (hy : ρ y = .int kk i) (hi : i < len) :
    (execOp ρ ⟨dst, .indexAddr 33 x y, ty, pos, aft, gd⟩).run Try.prog w = .ok (.value (.pointer (some ⟨b, off + i * 2, none⟩))) w := by
  have h0 : ¬ ((i : Int) < 0) := by omega
  have h1 : (i : Int) < (len : Int) := by omega
  go_simp
end
set_option maxRecDepth 100000 in
set_option maxHeartbeats 4000000 in
theorem sws_at (w : World) (v u : Value) (a b : List Wv) (ha : WsAt w v a) (hb : WsAt w u b) (r : Bool) (hr : sameWs a b = r) : Calls Try.prog 19 #[v, u] w fun e w' => e = .returned (.bool r) ∧ Kept (fun _ => False) w w' := by
  obtain ⟨ao, cap, rfl⟩ := ha.slice
  obtain ⟨bo, cap', rfl⟩ := hb.slice
  have hmax := ha.2.2
  have HA := hide ha
  have HB := hide hb
  have HR := hide hr
  clear ha hb hr
  by_cases hl : a.length = b.length
  · obtain ⟨n, hn⟩ : ∃ n, n = b.length := ⟨_, rfl⟩
    rw [hl] at hmax ⊢
    have Ha : Hid (a.length = n) := hide (by omega)
    have Hb : Hid (b.length = n) := hide hn.symm
    rw [← hn] at hmax ⊢
    have hnn : ((n : Int) != (n : Int)) = false := by simp
    clear hl hn
    go_enter Try.func19, Try.ntmps19
    go_wp2
    go_loopw [13] (fun i wr => ∃ (k : Nat), i = .int .i64 k ∧ k ≤ n ∧ Hid (sameWs (a.drop k) (b.drop k) = r) ∧ Kept (fun _ => False) w wr)
      (fun i _ => n - (intOf i).toNat)
    case atStart => exact ⟨0, rfl, Nat.zero_le _, hide (by simpa using HR.out), Kept.refl _ _⟩
    case round =>
      obtain ⟨k, rfl, hk, HG, hkr⟩ := hrel
      by_cases hlt : k < n
      · have hka : k < a.length := by rw [Ha.out]; exact hlt
        have hkb : k < b.length := by rw [Hb.out]; exact hlt
        obtain ⟨g, off, rfl, c0, c1, hsa, hna⟩ := (HA.out.kept hkr).get hka
        obtain ⟨g', off', rfl, d0, d1, hsb, hnb⟩ := (HB.out.kept hkr).get hkb
        have hst := sameWs_step hka hkb
        obtain ⟨x, hx⟩ : ∃ x, x = a[k] := ⟨_, rfl⟩
        obtain ⟨y, hy⟩ : ∃ y, y = b[k] := ⟨_, rfl⟩
        rw [← hx, ← hy] at hst
        rw [← hx] at c0 c1 hsa
        rw [← hy] at d0 d1 hsb
        obtain ⟨p, ⟨pa, pn, pc⟩, pB⟩ := x
        obtain ⟨q, ⟨qa, qn, qc⟩, qB⟩ := y
        simp only [Sl.v] at c0 c1 hsa d0 d1 hsb
        have HCa : Hid (Cells wr g (off + k * 2) [.int .i64 p, .slice pa pn pc]) := hide (by
          intro j u hj
          match j with
          | 0 => simp at hj; rw [← hj]; exact c0
          | 1 => simp at hj; rw [← hj]; exact c1
          | j + 2 => simp at hj)
        have HCb : Hid (Cells wr g' (off' + k * 2) [.int .i64 q, .slice qa qn qc]) := hide (by
          intro j u hj
          match j with
          | 0 => simp at hj; rw [← hj]; exact d0
          | 1 => simp at hj; rw [← hj]; exact d1
          | j + 2 => simp at hj)
        have HSa := hide hsa
        have HSb := hide hsb
        have HGr := HG.out
        rw [hst] at HGr
        have HGR := hide HGr
        have HLa := hide hsa.lt
        have HLb := hide hsb.lt
        clear hsa hsb hna hnb hx hy hst HGr HG c0 c1 d0 d1
        by_cases h1 : p = q
        · by_cases h2 : pB = qB
          · have HNE : Hid ((decide (p ≠ q)) = false) := hide (by simp [h1])
            have HNB : Hid ((decide (strN pB ≠ strN qB)) = false) := hide (by simp [h2])
            have HF : Hid (sameWs (a.drop (k + 1)) (b.drop (k + 1)) = r) := hide (by rw [← HGR.out]; simp [sameW, h1, h2])
            clear HGR h1 h2
            go_wp2
            refine hold_frame (p := fun fr => Code.wp Try.prog _ _ fr _) ?_
            intro fr hfr
            have e0 : fr.eval (.tmp 0) = .slice (some ⟨g, off, none⟩) n cap := by rw [hfr.out]; rfl
            have e1 : fr.eval (.tmp 1) = .slice (some ⟨g', off', none⟩) n cap' := by rw [hfr.out]; rfl
            have e5 : fr.eval (.tmp 5) = .int .i64 k := by rw [hfr.out]; rfl
            have hts : fr.tmps.size = 43 := by rw [hfr.out]; rfl
            refine region_S0 99 Try.mixed ?_
            intro w0 hkw hheap
            have c0w := (hkw.cells (M := [.int .i64 p, .slice pa pn pc]) HCa.out (fun h => h))
            have d0w := (hkw.cells (M := [.int .i64 q, .slice qa qn qc]) HCb.out (fun h => h))
            have sAw := HSa.out.kept hkw
            have sBw := HSb.out.kept hkw
            have hS0 : Kept (fun _ => False) w0 w0 := Kept.refl (fun _ => False) w0
            refine ⟨Kept (fun _ => False) w0, ?_⟩
            refine tkS 0 16 (v := .slice (some ⟨g, off, none⟩) n cap) hS0 rfl rfl (by kernel_rfl) (by kernel_rfl) (by kernel_rfl) (by kernel_rfl) (wanted_none rfl) (fun _ _ _ h => h) (fun U hU => r_move (by simp [eval_put_ne, eval_put_eq, size_put, hts, e0])) ?_
            refine tkS 1 17 (v := .int .i64 k) hS0 rfl rfl (by kernel_rfl) (by kernel_rfl) (by kernel_rfl) (by kernel_rfl) (wanted_none rfl) (fun _ _ _ h => h) (fun U hU => r_move (by simp [eval_put_ne, eval_put_eq, size_put, hts, e5])) ?_
            refine tkS 2 18 (v := .pointer (some ⟨g, off + k * 2, none⟩)) hS0 rfl rfl (by kernel_rfl) (by kernel_rfl) (by kernel_rfl) (by kernel_rfl) (wanted_none rfl) (fun _ _ _ h => h) (fun U hU => r_ix22 k (b := g) (off := off) (len := n) (cap := cap) (kk := .i64) (by simp [eval_put_ne, eval_put_eq, size_put, hts]) (by simp [eval_put_ne, eval_put_eq, size_put, hts]) hlt) ?_
            refine tkS 3 19 (v := .pointer (some ⟨g, off + k * 2, none⟩)) hS0 rfl rfl (by kernel_rfl) (by kernel_rfl) (by kernel_rfl) (by kernel_rfl) (wanted_none rfl) (fun _ _ _ h => h) (fun U hU => r_f40_0 (by simp [eval_put_ne, eval_put_eq, size_put, hts])) ?_
            refine tkS 4 20 (v := .int .i64 p) hS0 rfl rfl (by kernel_rfl) (by kernel_rfl) (by kernel_rfl) (by kernel_rfl) (wanted_none rfl) (fun _ _ _ h => h) (fun U hU => r_ld3 (b := g) (o := off + k * 2) (by simp [eval_put_ne, eval_put_eq, size_put, hts]) (by have := (hU.cells c0w (fun h => h)) 0 _ rfl; simpa using this)) ?_
            refine tkS 5 21 (v := .slice (some ⟨g', off', none⟩) n cap') hS0 rfl rfl (by kernel_rfl) (by kernel_rfl) (by kernel_rfl) (by kernel_rfl) (wanted_none rfl) (fun _ _ _ h => h) (fun U hU => r_move (by simp [eval_put_ne, eval_put_eq, size_put, hts, e1])) ?_
            refine tkS 6 22 (v := .int .i64 k) hS0 rfl rfl (by kernel_rfl) (by kernel_rfl) (by kernel_rfl) (by kernel_rfl) (wanted_none rfl) (fun _ _ _ h => h) (fun U hU => r_move (by simp [eval_put_ne, eval_put_eq, size_put, hts, e5])) ?_
            refine tkS 7 23 (v := .pointer (some ⟨g', off' + k * 2, none⟩)) hS0 rfl rfl (by kernel_rfl) (by kernel_rfl) (by kernel_rfl) (by kernel_rfl) (wanted_none rfl) (fun _ _ _ h => h) (fun U hU => r_ix22 k (b := g') (off := off') (len := n) (cap := cap') (kk := .i64) (by simp [eval_put_ne, eval_put_eq, size_put, hts]) (by simp [eval_put_ne, eval_put_eq, size_put, hts]) hlt) ?_
            refine tkS 8 24 (v := .pointer (some ⟨g', off' + k * 2, none⟩)) hS0 rfl rfl (by kernel_rfl) (by kernel_rfl) (by kernel_rfl) (by kernel_rfl) (wanted_none rfl) (fun _ _ _ h => h) (fun U hU => r_f40_0 (by simp [eval_put_ne, eval_put_eq, size_put, hts])) ?_
            refine tkS 9 25 (v := .int .i64 q) hS0 rfl rfl (by kernel_rfl) (by kernel_rfl) (by kernel_rfl) (by kernel_rfl) (wanted_none rfl) (fun _ _ _ h => h) (fun U hU => r_ld3 (b := g') (o := off' + k * 2) (by simp [eval_put_ne, eval_put_eq, size_put, hts]) (by have := (hU.cells d0w (fun h => h)) 0 _ rfl; simpa using this)) ?_
            refine tkS 10 26 (v := .bool false) hS0 rfl rfl (by kernel_rfl) (by kernel_rfl) (by kernel_rfl) (by kernel_rfl) (wanted_none rfl) (fun _ _ _ h => h) (fun U hU => (r_neq3 (p := p) (q := q) (by simp [eval_put_ne, eval_put_eq, size_put, hts]) (by simp [eval_put_ne, eval_put_eq, size_put, hts])).trans (by rw [HNE.out])) ?_
            refine tkS 11 27 (v := .bool false) hS0 rfl rfl (by kernel_rfl) (by kernel_rfl) (by kernel_rfl) (by kernel_rfl) (wanted_none rfl) (fun _ _ _ h => h) (fun U hU => r_move (by simp [eval_put_ne, eval_put_eq, size_put, hts])) ?_
            refine tkS 12 28 (v := .slice (some ⟨g, off, none⟩) n cap) hS0 rfl rfl (by kernel_rfl) (by kernel_rfl) (by kernel_rfl) (by kernel_rfl) (wanted_some (j := 11) (d := 27) (bb := false) rfl rfl rfl (by simp [eval_put_ne, eval_put_eq, size_put, hts]) (by simp [size_put, hts])) (fun _ _ _ h => h) (fun U hU => r_move (by simp [eval_put_ne, eval_put_eq, size_put, hts, e0])) ?_
            refine tkS 13 29 (v := .int .i64 k) hS0 rfl rfl (by kernel_rfl) (by kernel_rfl) (by kernel_rfl) (by kernel_rfl) (wanted_some (j := 11) (d := 27) (bb := false) rfl rfl rfl (by simp [eval_put_ne, eval_put_eq, size_put, hts]) (by simp [size_put, hts])) (fun _ _ _ h => h) (fun U hU => r_move (by simp [eval_put_ne, eval_put_eq, size_put, hts, e5])) ?_
            refine tkS 14 30 (v := .pointer (some ⟨g, off + k * 2, none⟩)) hS0 rfl rfl (by kernel_rfl) (by kernel_rfl) (by kernel_rfl) (by kernel_rfl) (wanted_some (j := 11) (d := 27) (bb := false) rfl rfl rfl (by simp [eval_put_ne, eval_put_eq, size_put, hts]) (by simp [size_put, hts])) (fun _ _ _ h => h) (fun U hU => r_ix22 k (b := g) (off := off) (len := n) (cap := cap) (kk := .i64) (by simp [eval_put_ne, eval_put_eq, size_put, hts]) (by simp [eval_put_ne, eval_put_eq, size_put, hts]) hlt) ?_
            refine tkS 15 31 (v := .pointer (some ⟨g, off + k * 2 + 1, none⟩)) hS0 rfl rfl (by kernel_rfl) (by kernel_rfl) (by kernel_rfl) (by kernel_rfl) (wanted_some (j := 11) (d := 27) (bb := false) rfl rfl rfl (by simp [eval_put_ne, eval_put_eq, size_put, hts]) (by simp [size_put, hts])) (fun _ _ _ h => h) (fun U hU => r_f40_1 (by simp [eval_put_ne, eval_put_eq, size_put, hts])) ?_
            refine tkS 16 32 (v := .slice pa pn pc) hS0 rfl rfl (by kernel_rfl) (by kernel_rfl) (by kernel_rfl) (by kernel_rfl) (wanted_some (j := 11) (d := 27) (bb := false) rfl rfl rfl (by simp [eval_put_ne, eval_put_eq, size_put, hts]) (by simp [size_put, hts])) (fun _ _ _ h => h) (fun U hU => r_ld25 (b := g) (o := off + k * 2 + 1) (by simp [eval_put_ne, eval_put_eq, size_put, hts]) ((hU.cells c0w (fun h => h)) 1 _ rfl)) ?_
            refine tkS 17 33 (v := .string (strN pB)) hS0 rfl rfl (by kernel_rfl) (by kernel_rfl) (by kernel_rfl) (by kernel_rfl) (wanted_some (j := 11) (d := 27) (bb := false) rfl rfl rfl (by simp [eval_put_ne, eval_put_eq, size_put, hts]) (by simp [size_put, hts])) (fun _ _ _ h => h) (fun U hU => r_strS (by simp [eval_put_ne, eval_put_eq, size_put, hts]) (sAw.kept hU)) ?_
            refine tkS 18 34 (v := .slice (some ⟨g', off', none⟩) n cap') hS0 rfl rfl (by kernel_rfl) (by kernel_rfl) (by kernel_rfl) (by kernel_rfl) (wanted_some (j := 11) (d := 27) (bb := false) rfl rfl rfl (by simp [eval_put_ne, eval_put_eq, size_put, hts]) (by simp [size_put, hts])) (fun _ _ _ h => h) (fun U hU => r_move (by simp [eval_put_ne, eval_put_eq, size_put, hts, e1])) ?_
            refine tkS 19 35 (v := .int .i64 k) hS0 rfl rfl (by kernel_rfl) (by kernel_rfl) (by kernel_rfl) (by kernel_rfl) (wanted_some (j := 11) (d := 27) (bb := false) rfl rfl rfl (by simp [eval_put_ne, eval_put_eq, size_put, hts]) (by simp [size_put, hts])) (fun _ _ _ h => h) (fun U hU => r_move (by simp [eval_put_ne, eval_put_eq, size_put, hts, e5])) ?_
            refine tkS 20 36 (v := .pointer (some ⟨g', off' + k * 2, none⟩)) hS0 rfl rfl (by kernel_rfl) (by kernel_rfl) (by kernel_rfl) (by kernel_rfl) (wanted_some (j := 11) (d := 27) (bb := false) rfl rfl rfl (by simp [eval_put_ne, eval_put_eq, size_put, hts]) (by simp [size_put, hts])) (fun _ _ _ h => h) (fun U hU => r_ix22 k (b := g') (off := off') (len := n) (cap := cap') (kk := .i64) (by simp [eval_put_ne, eval_put_eq, size_put, hts]) (by simp [eval_put_ne, eval_put_eq, size_put, hts]) hlt) ?_
            refine tkS 21 37 (v := .pointer (some ⟨g', off' + k * 2 + 1, none⟩)) hS0 rfl rfl (by kernel_rfl) (by kernel_rfl) (by kernel_rfl) (by kernel_rfl) (wanted_some (j := 11) (d := 27) (bb := false) rfl rfl rfl (by simp [eval_put_ne, eval_put_eq, size_put, hts]) (by simp [size_put, hts])) (fun _ _ _ h => h) (fun U hU => r_f40_1 (by simp [eval_put_ne, eval_put_eq, size_put, hts])) ?_
            refine tkS 22 38 (v := .slice qa qn qc) hS0 rfl rfl (by kernel_rfl) (by kernel_rfl) (by kernel_rfl) (by kernel_rfl) (wanted_some (j := 11) (d := 27) (bb := false) rfl rfl rfl (by simp [eval_put_ne, eval_put_eq, size_put, hts]) (by simp [size_put, hts])) (fun _ _ _ h => h) (fun U hU => r_ld25 (b := g') (o := off' + k * 2 + 1) (by simp [eval_put_ne, eval_put_eq, size_put, hts]) ((hU.cells d0w (fun h => h)) 1 _ rfl)) ?_
            refine tkS 23 39 (v := .string (strN qB)) hS0 rfl rfl (by kernel_rfl) (by kernel_rfl) (by kernel_rfl) (by kernel_rfl) (wanted_some (j := 11) (d := 27) (bb := false) rfl rfl rfl (by simp [eval_put_ne, eval_put_eq, size_put, hts]) (by simp [size_put, hts])) (fun _ _ _ h => h) (fun U hU => r_strS (by simp [eval_put_ne, eval_put_eq, size_put, hts]) (sBw.kept hU)) ?_
            refine tkS 24 40 (v := .bool false) hS0 rfl rfl (by kernel_rfl) (by kernel_rfl) (by kernel_rfl) (by kernel_rfl) (wanted_some (j := 11) (d := 27) (bb := false) rfl rfl rfl (by simp [eval_put_ne, eval_put_eq, size_put, hts]) (by simp [size_put, hts])) (fun _ _ _ h => h) (fun U hU => (r_neq9 (p := strN pB) (q := strN qB) (by simp [eval_put_ne, eval_put_eq, size_put, hts]) (by simp [eval_put_ne, eval_put_eq, size_put, hts])).trans (by rw [HNB.out])) ?_
            refine tkS 25 41 (v := .bool false) hS0 rfl rfl (by kernel_rfl) (by kernel_rfl) (by kernel_rfl) (by kernel_rfl) (wanted_none rfl) (fun _ _ _ h => h) (fun U hU => r_pickF (by simp [eval_put_ne, eval_put_eq, size_put, hts]) (by simp [eval_put_ne, eval_put_eq, size_put, hts])) ?_
            refine doneS (by kernel_rfl) ?_
            have hkr2 := hkr.trans hkw (fun _ _ h => h)
            clear c0w d0w sAw sBw hS0 hkw hheap
            rw [hfr.out]
            clear hfr e0 e1 e5 hts
            simp only [put_lit, put_none, List.set_cons_succ, List.set_cons_zero]
            go_wp2
            go_roundw
            case rel => exact ⟨k + 1, by simp, by omega, HF, hkr2⟩
            case measure => simp [intOf]; omega
          · have HNE : Hid ((decide (p ≠ q)) = false) := hide (by simp [h1])
            have HNB : Hid ((decide (strN pB ≠ strN qB)) = true) := hide (by
              have : ¬ strN pB = strN qB := fun e => h2 ((strN_iff HLa.out HLb.out).1 e)
              simp [this])
            obtain rfl : r = false := by rw [← HGR.out]; simp [sameW, h2]
            clear HGR h1 h2
            go_wp2
            refine hold_frame (p := fun fr => Code.wp Try.prog _ _ fr _) ?_
            intro fr hfr
            have e0 : fr.eval (.tmp 0) = .slice (some ⟨g, off, none⟩) n cap := by rw [hfr.out]; rfl
            have e1 : fr.eval (.tmp 1) = .slice (some ⟨g', off', none⟩) n cap' := by rw [hfr.out]; rfl
            have e5 : fr.eval (.tmp 5) = .int .i64 k := by rw [hfr.out]; rfl
            have hts : fr.tmps.size = 43 := by rw [hfr.out]; rfl
            refine region_S0 99 Try.mixed ?_
            intro w0 hkw hheap
            have c0w := (hkw.cells (M := [.int .i64 p, .slice pa pn pc]) HCa.out (fun h => h))
            have d0w := (hkw.cells (M := [.int .i64 q, .slice qa qn qc]) HCb.out (fun h => h))
            have sAw := HSa.out.kept hkw
            have sBw := HSb.out.kept hkw
            have hS0 : Kept (fun _ => False) w0 w0 := Kept.refl (fun _ => False) w0
            refine ⟨Kept (fun _ => False) w0, ?_⟩
            refine tkS 0 16 (v := .slice (some ⟨g, off, none⟩) n cap) hS0 rfl rfl (by kernel_rfl) (by kernel_rfl) (by kernel_rfl) (by kernel_rfl) (wanted_none rfl) (fun _ _ _ h => h) (fun U hU => r_move (by simp [eval_put_ne, eval_put_eq, size_put, hts, e0])) ?_
            refine tkS 1 17 (v := .int .i64 k) hS0 rfl rfl (by kernel_rfl) (by kernel_rfl) (by kernel_rfl) (by kernel_rfl) (wanted_none rfl) (fun _ _ _ h => h) (fun U hU => r_move (by simp [eval_put_ne, eval_put_eq, size_put, hts, e5])) ?_
            refine tkS 2 18 (v := .pointer (some ⟨g, off + k * 2, none⟩)) hS0 rfl rfl (by kernel_rfl) (by kernel_rfl) (by kernel_rfl) (by kernel_rfl) (wanted_none rfl) (fun _ _ _ h => h) (fun U hU => r_ix22 k (b := g) (off := off) (len := n) (cap := cap) (kk := .i64) (by simp [eval_put_ne, eval_put_eq, size_put, hts]) (by simp [eval_put_ne, eval_put_eq, size_put, hts]) hlt) ?_
            refine tkS 3 19 (v := .pointer (some ⟨g, off + k * 2, none⟩)) hS0 rfl rfl (by kernel_rfl) (by kernel_rfl) (by kernel_rfl) (by kernel_rfl) (wanted_none rfl) (fun _ _ _ h => h) (fun U hU => r_f40_0 (by simp [eval_put_ne, eval_put_eq, size_put, hts])) ?_
            refine tkS 4 20 (v := .int .i64 p) hS0 rfl rfl (by kernel_rfl) (by kernel_rfl) (by kernel_rfl) (by kernel_rfl) (wanted_none rfl) (fun _ _ _ h => h) (fun U hU => r_ld3 (b := g) (o := off + k * 2) (by simp [eval_put_ne, eval_put_eq, size_put, hts]) (by have := (hU.cells c0w (fun h => h)) 0 _ rfl; simpa using this)) ?_
            refine tkS 5 21 (v := .slice (some ⟨g', off', none⟩) n cap') hS0 rfl rfl (by kernel_rfl) (by kernel_rfl) (by kernel_rfl) (by kernel_rfl) (wanted_none rfl) (fun _ _ _ h => h) (fun U hU => r_move (by simp [eval_put_ne, eval_put_eq, size_put, hts, e1])) ?_
            refine tkS 6 22 (v := .int .i64 k) hS0 rfl rfl (by kernel_rfl) (by kernel_rfl) (by kernel_rfl) (by kernel_rfl) (wanted_none rfl) (fun _ _ _ h => h) (fun U hU => r_move (by simp [eval_put_ne, eval_put_eq, size_put, hts, e5])) ?_
            refine tkS 7 23 (v := .pointer (some ⟨g', off' + k * 2, none⟩)) hS0 rfl rfl (by kernel_rfl) (by kernel_rfl) (by kernel_rfl) (by kernel_rfl) (wanted_none rfl) (fun _ _ _ h => h) (fun U hU => r_ix22 k (b := g') (off := off') (len := n) (cap := cap') (kk := .i64) (by simp [eval_put_ne, eval_put_eq, size_put, hts]) (by simp [eval_put_ne, eval_put_eq, size_put, hts]) hlt) ?_
            refine tkS 8 24 (v := .pointer (some ⟨g', off' + k * 2, none⟩)) hS0 rfl rfl (by kernel_rfl) (by kernel_rfl) (by kernel_rfl) (by kernel_rfl) (wanted_none rfl) (fun _ _ _ h => h) (fun U hU => r_f40_0 (by simp [eval_put_ne, eval_put_eq, size_put, hts])) ?_
            refine tkS 9 25 (v := .int .i64 q) hS0 rfl rfl (by kernel_rfl) (by kernel_rfl) (by kernel_rfl) (by kernel_rfl) (wanted_none rfl) (fun _ _ _ h => h) (fun U hU => r_ld3 (b := g') (o := off' + k * 2) (by simp [eval_put_ne, eval_put_eq, size_put, hts]) (by have := (hU.cells d0w (fun h => h)) 0 _ rfl; simpa using this)) ?_
            refine tkS 10 26 (v := .bool false) hS0 rfl rfl (by kernel_rfl) (by kernel_rfl) (by kernel_rfl) (by kernel_rfl) (wanted_none rfl) (fun _ _ _ h => h) (fun U hU => (r_neq3 (p := p) (q := q) (by simp [eval_put_ne, eval_put_eq, size_put, hts]) (by simp [eval_put_ne, eval_put_eq, size_put, hts])).trans (by rw [HNE.out])) ?_
            refine tkS 11 27 (v := .bool false) hS0 rfl rfl (by kernel_rfl) (by kernel_rfl) (by kernel_rfl) (by kernel_rfl) (wanted_none rfl) (fun _ _ _ h => h) (fun U hU => r_move (by simp [eval_put_ne, eval_put_eq, size_put, hts])) ?_
            refine tkS 12 28 (v := .slice (some ⟨g, off, none⟩) n cap) hS0 rfl rfl (by kernel_rfl) (by kernel_rfl) (by kernel_rfl) (by kernel_rfl) (wanted_some (j := 11) (d := 27) (bb := false) rfl rfl rfl (by simp [eval_put_ne, eval_put_eq, size_put, hts]) (by simp [size_put, hts])) (fun _ _ _ h => h) (fun U hU => r_move (by simp [eval_put_ne, eval_put_eq, size_put, hts, e0])) ?_
            refine tkS 13 29 (v := .int .i64 k) hS0 rfl rfl (by kernel_rfl) (by kernel_rfl) (by kernel_rfl) (by kernel_rfl) (wanted_some (j := 11) (d := 27) (bb := false) rfl rfl rfl (by simp [eval_put_ne, eval_put_eq, size_put, hts]) (by simp [size_put, hts])) (fun _ _ _ h => h) (fun U hU => r_move (by simp [eval_put_ne, eval_put_eq, size_put, hts, e5])) ?_
            refine tkS 14 30 (v := .pointer (some ⟨g, off + k * 2, none⟩)) hS0 rfl rfl (by kernel_rfl) (by kernel_rfl) (by kernel_rfl) (by kernel_rfl) (wanted_some (j := 11) (d := 27) (bb := false) rfl rfl rfl (by simp [eval_put_ne, eval_put_eq, size_put, hts]) (by simp [size_put, hts])) (fun _ _ _ h => h) (fun U hU => r_ix22 k (b := g) (off := off) (len := n) (cap := cap) (kk := .i64) (by simp [eval_put_ne, eval_put_eq, size_put, hts]) (by simp [eval_put_ne, eval_put_eq, size_put, hts]) hlt) ?_
            refine tkS 15 31 (v := .pointer (some ⟨g, off + k * 2 + 1, none⟩)) hS0 rfl rfl (by kernel_rfl) (by kernel_rfl) (by kernel_rfl) (by kernel_rfl) (wanted_some (j := 11) (d := 27) (bb := false) rfl rfl rfl (by simp [eval_put_ne, eval_put_eq, size_put, hts]) (by simp [size_put, hts])) (fun _ _ _ h => h) (fun U hU => r_f40_1 (by simp [eval_put_ne, eval_put_eq, size_put, hts])) ?_
            refine tkS 16 32 (v := .slice pa pn pc) hS0 rfl rfl (by kernel_rfl) (by kernel_rfl) (by kernel_rfl) (by kernel_rfl) (wanted_some (j := 11) (d := 27) (bb := false) rfl rfl rfl (by simp [eval_put_ne, eval_put_eq, size_put, hts]) (by simp [size_put, hts])) (fun _ _ _ h => h) (fun U hU => r_ld25 (b := g) (o := off + k * 2 + 1) (by simp [eval_put_ne, eval_put_eq, size_put, hts]) ((hU.cells c0w (fun h => h)) 1 _ rfl)) ?_
            refine tkS 17 33 (v := .string (strN pB)) hS0 rfl rfl (by kernel_rfl) (by kernel_rfl) (by kernel_rfl) (by kernel_rfl) (wanted_some (j := 11) (d := 27) (bb := false) rfl rfl rfl (by simp [eval_put_ne, eval_put_eq, size_put, hts]) (by simp [size_put, hts])) (fun _ _ _ h => h) (fun U hU => r_strS (by simp [eval_put_ne, eval_put_eq, size_put, hts]) (sAw.kept hU)) ?_
            refine tkS 18 34 (v := .slice (some ⟨g', off', none⟩) n cap') hS0 rfl rfl (by kernel_rfl) (by kernel_rfl) (by kernel_rfl) (by kernel_rfl) (wanted_some (j := 11) (d := 27) (bb := false) rfl rfl rfl (by simp [eval_put_ne, eval_put_eq, size_put, hts]) (by simp [size_put, hts])) (fun _ _ _ h => h) (fun U hU => r_move (by simp [eval_put_ne, eval_put_eq, size_put, hts, e1])) ?_
            refine tkS 19 35 (v := .int .i64 k) hS0 rfl rfl (by kernel_rfl) (by kernel_rfl) (by kernel_rfl) (by kernel_rfl) (wanted_some (j := 11) (d := 27) (bb := false) rfl rfl rfl (by simp [eval_put_ne, eval_put_eq, size_put, hts]) (by simp [size_put, hts])) (fun _ _ _ h => h) (fun U hU => r_move (by simp [eval_put_ne, eval_put_eq, size_put, hts, e5])) ?_
            refine tkS 20 36 (v := .pointer (some ⟨g', off' + k * 2, none⟩)) hS0 rfl rfl (by kernel_rfl) (by kernel_rfl) (by kernel_rfl) (by kernel_rfl) (wanted_some (j := 11) (d := 27) (bb := false) rfl rfl rfl (by simp [eval_put_ne, eval_put_eq, size_put, hts]) (by simp [size_put, hts])) (fun _ _ _ h => h) (fun U hU => r_ix22 k (b := g') (off := off') (len := n) (cap := cap') (kk := .i64) (by simp [eval_put_ne, eval_put_eq, size_put, hts]) (by simp [eval_put_ne, eval_put_eq, size_put, hts]) hlt) ?_
            refine tkS 21 37 (v := .pointer (some ⟨g', off' + k * 2 + 1, none⟩)) hS0 rfl rfl (by kernel_rfl) (by kernel_rfl) (by kernel_rfl) (by kernel_rfl) (wanted_some (j := 11) (d := 27) (bb := false) rfl rfl rfl (by simp [eval_put_ne, eval_put_eq, size_put, hts]) (by simp [size_put, hts])) (fun _ _ _ h => h) (fun U hU => r_f40_1 (by simp [eval_put_ne, eval_put_eq, size_put, hts])) ?_
            refine tkS 22 38 (v := .slice qa qn qc) hS0 rfl rfl (by kernel_rfl) (by kernel_rfl) (by kernel_rfl) (by kernel_rfl) (wanted_some (j := 11) (d := 27) (bb := false) rfl rfl rfl (by simp [eval_put_ne, eval_put_eq, size_put, hts]) (by simp [size_put, hts])) (fun _ _ _ h => h) (fun U hU => r_ld25 (b := g') (o := off' + k * 2 + 1) (by simp [eval_put_ne, eval_put_eq, size_put, hts]) ((hU.cells d0w (fun h => h)) 1 _ rfl)) ?_
            refine tkS 23 39 (v := .string (strN qB)) hS0 rfl rfl (by kernel_rfl) (by kernel_rfl) (by kernel_rfl) (by kernel_rfl) (wanted_some (j := 11) (d := 27) (bb := false) rfl rfl rfl (by simp [eval_put_ne, eval_put_eq, size_put, hts]) (by simp [size_put, hts])) (fun _ _ _ h => h) (fun U hU => r_strS (by simp [eval_put_ne, eval_put_eq, size_put, hts]) (sBw.kept hU)) ?_
            refine tkS 24 40 (v := .bool true) hS0 rfl rfl (by kernel_rfl) (by kernel_rfl) (by kernel_rfl) (by kernel_rfl) (wanted_some (j := 11) (d := 27) (bb := false) rfl rfl rfl (by simp [eval_put_ne, eval_put_eq, size_put, hts]) (by simp [size_put, hts])) (fun _ _ _ h => h) (fun U hU => (r_neq9 (p := strN pB) (q := strN qB) (by simp [eval_put_ne, eval_put_eq, size_put, hts]) (by simp [eval_put_ne, eval_put_eq, size_put, hts])).trans (by rw [HNB.out])) ?_
            refine tkS 25 41 (v := .bool true) hS0 rfl rfl (by kernel_rfl) (by kernel_rfl) (by kernel_rfl) (by kernel_rfl) (wanted_none rfl) (fun _ _ _ h => h) (fun U hU => r_pickF (by simp [eval_put_ne, eval_put_eq, size_put, hts]) (by simp [eval_put_ne, eval_put_eq, size_put, hts])) ?_
            refine doneS (by kernel_rfl) ?_
            have hkr2 := hkr.trans hkw (fun _ _ h => h)
            clear c0w d0w sAw sBw hS0 hkw hheap
            rw [hfr.out]
            clear hfr e0 e1 e5 hts
            simp only [put_lit, put_none, List.set_cons_succ, List.set_cons_zero]
            go_wp2
            go_ret
            exact ⟨rfl, hkr2⟩
        · have HNE : Hid ((decide (p ≠ q)) = true) := hide (by simp [h1])
          obtain rfl : r = false := by rw [← HGR.out]; simp [sameW, h1]
          clear HGR h1
          go_wp2
          refine hold_frame (p := fun fr => Code.wp Try.prog _ _ fr _) ?_
          intro fr hfr
          have e0 : fr.eval (.tmp 0) = .slice (some ⟨g, off, none⟩) n cap := by rw [hfr.out]; rfl
          have e1 : fr.eval (.tmp 1) = .slice (some ⟨g', off', none⟩) n cap' := by rw [hfr.out]; rfl
          have e5 : fr.eval (.tmp 5) = .int .i64 k := by rw [hfr.out]; rfl
          have hts : fr.tmps.size = 43 := by rw [hfr.out]; rfl
          refine region_S0 99 Try.mixed ?_
          intro w0 hkw hheap
          have c0w := (hkw.cells (M := [.int .i64 p, .slice pa pn pc]) HCa.out (fun h => h))
          have d0w := (hkw.cells (M := [.int .i64 q, .slice qa qn qc]) HCb.out (fun h => h))
          have sAw := HSa.out.kept hkw
          have sBw := HSb.out.kept hkw
          have hS0 : Kept (fun _ => False) w0 w0 := Kept.refl (fun _ => False) w0
          refine ⟨Kept (fun _ => False) w0, ?_⟩
          refine tkS 0 16 (v := .slice (some ⟨g, off, none⟩) n cap) hS0 rfl rfl (by kernel_rfl) (by kernel_rfl) (by kernel_rfl) (by kernel_rfl) (wanted_none rfl) (fun _ _ _ h => h) (fun U hU => r_move (by simp [eval_put_ne, eval_put_eq, size_put, hts, e0])) ?_
          refine tkS 1 17 (v := .int .i64 k) hS0 rfl rfl (by kernel_rfl) (by kernel_rfl) (by kernel_rfl) (by kernel_rfl) (wanted_none rfl) (fun _ _ _ h => h) (fun U hU => r_move (by simp [eval_put_ne, eval_put_eq, size_put, hts, e5])) ?_
          refine tkS 2 18 (v := .pointer (some ⟨g, off + k * 2, none⟩)) hS0 rfl rfl (by kernel_rfl) (by kernel_rfl) (by kernel_rfl) (by kernel_rfl) (wanted_none rfl) (fun _ _ _ h => h) (fun U hU => r_ix22 k (b := g) (off := off) (len := n) (cap := cap) (kk := .i64) (by simp [eval_put_ne, eval_put_eq, size_put, hts]) (by simp [eval_put_ne, eval_put_eq, size_put, hts]) hlt) ?_
          refine tkS 3 19 (v := .pointer (some ⟨g, off + k * 2, none⟩)) hS0 rfl rfl (by kernel_rfl) (by kernel_rfl) (by kernel_rfl) (by kernel_rfl) (wanted_none rfl) (fun _ _ _ h => h) (fun U hU => r_f40_0 (by simp [eval_put_ne, eval_put_eq, size_put, hts])) ?_
          refine tkS 4 20 (v := .int .i64 p) hS0 rfl rfl (by kernel_rfl) (by kernel_rfl) (by kernel_rfl) (by kernel_rfl) (wanted_none rfl) (fun _ _ _ h => h) (fun U hU => r_ld3 (b := g) (o := off + k * 2) (by simp [eval_put_ne, eval_put_eq, size_put, hts]) (by have := (hU.cells c0w (fun h => h)) 0 _ rfl; simpa using this)) ?_
          refine tkS 5 21 (v := .slice (some ⟨g', off', none⟩) n cap') hS0 rfl rfl (by kernel_rfl) (by kernel_rfl) (by kernel_rfl) (by kernel_rfl) (wanted_none rfl) (fun _ _ _ h => h) (fun U hU => r_move (by simp [eval_put_ne, eval_put_eq, size_put, hts, e1])) ?_
          refine tkS 6 22 (v := .int .i64 k) hS0 rfl rfl (by kernel_rfl) (by kernel_rfl) (by kernel_rfl) (by kernel_rfl) (wanted_none rfl) (fun _ _ _ h => h) (fun U hU => r_move (by simp [eval_put_ne, eval_put_eq, size_put, hts, e5])) ?_
          refine tkS 7 23 (v := .pointer (some ⟨g', off' + k * 2, none⟩)) hS0 rfl rfl (by kernel_rfl) (by kernel_rfl) (by kernel_rfl) (by kernel_rfl) (wanted_none rfl) (fun _ _ _ h => h) (fun U hU => r_ix22 k (b := g') (off := off') (len := n) (cap := cap') (kk := .i64) (by simp [eval_put_ne, eval_put_eq, size_put, hts]) (by simp [eval_put_ne, eval_put_eq, size_put, hts]) hlt) ?_
          refine tkS 8 24 (v := .pointer (some ⟨g', off' + k * 2, none⟩)) hS0 rfl rfl (by kernel_rfl) (by kernel_rfl) (by kernel_rfl) (by kernel_rfl) (wanted_none rfl) (fun _ _ _ h => h) (fun U hU => r_f40_0 (by simp [eval_put_ne, eval_put_eq, size_put, hts])) ?_
          refine tkS 9 25 (v := .int .i64 q) hS0 rfl rfl (by kernel_rfl) (by kernel_rfl) (by kernel_rfl) (by kernel_rfl) (wanted_none rfl) (fun _ _ _ h => h) (fun U hU => r_ld3 (b := g') (o := off' + k * 2) (by simp [eval_put_ne, eval_put_eq, size_put, hts]) (by have := (hU.cells d0w (fun h => h)) 0 _ rfl; simpa using this)) ?_
          refine tkS 10 26 (v := .bool true) hS0 rfl rfl (by kernel_rfl) (by kernel_rfl) (by kernel_rfl) (by kernel_rfl) (wanted_none rfl) (fun _ _ _ h => h) (fun U hU => (r_neq3 (p := p) (q := q) (by simp [eval_put_ne, eval_put_eq, size_put, hts]) (by simp [eval_put_ne, eval_put_eq, size_put, hts])).trans (by rw [HNE.out])) ?_
          refine tkS 11 27 (v := .bool true) hS0 rfl rfl (by kernel_rfl) (by kernel_rfl) (by kernel_rfl) (by kernel_rfl) (wanted_none rfl) (fun _ _ _ h => h) (fun U hU => r_move (by simp [eval_put_ne, eval_put_eq, size_put, hts])) ?_
          refine tkNS 12 28 hS0 rfl rfl (by kernel_rfl) (by kernel_rfl) (by kernel_rfl) (by kernel_rfl) (wanted_not (j := 11) (d := 27) (bb := false) rfl rfl rfl (by simp [eval_put_ne, eval_put_eq, size_put, hts]) (by simp [size_put, hts])) (fun _ _ _ h => h) ?_
          refine tkNS 13 29 hS0 rfl rfl (by kernel_rfl) (by kernel_rfl) (by kernel_rfl) (by kernel_rfl) (wanted_not (j := 11) (d := 27) (bb := false) rfl rfl rfl (by simp [eval_put_ne, eval_put_eq, size_put, hts]) (by simp [size_put, hts])) (fun _ _ _ h => h) ?_
          refine tkNS 14 30 hS0 rfl rfl (by kernel_rfl) (by kernel_rfl) (by kernel_rfl) (by kernel_rfl) (wanted_not (j := 11) (d := 27) (bb := false) rfl rfl rfl (by simp [eval_put_ne, eval_put_eq, size_put, hts]) (by simp [size_put, hts])) (fun _ _ _ h => h) ?_
          refine tkNS 15 31 hS0 rfl rfl (by kernel_rfl) (by kernel_rfl) (by kernel_rfl) (by kernel_rfl) (wanted_not (j := 11) (d := 27) (bb := false) rfl rfl rfl (by simp [eval_put_ne, eval_put_eq, size_put, hts]) (by simp [size_put, hts])) (fun _ _ _ h => h) ?_
          refine tkNS 16 32 hS0 rfl rfl (by kernel_rfl) (by kernel_rfl) (by kernel_rfl) (by kernel_rfl) (wanted_not (j := 11) (d := 27) (bb := false) rfl rfl rfl (by simp [eval_put_ne, eval_put_eq, size_put, hts]) (by simp [size_put, hts])) (fun _ _ _ h => h) ?_
          refine tkNS 17 33 hS0 rfl rfl (by kernel_rfl) (by kernel_rfl) (by kernel_rfl) (by kernel_rfl) (wanted_not (j := 11) (d := 27) (bb := false) rfl rfl rfl (by simp [eval_put_ne, eval_put_eq, size_put, hts]) (by simp [size_put, hts])) (fun _ _ _ h => h) ?_
          refine tkNS 18 34 hS0 rfl rfl (by kernel_rfl) (by kernel_rfl) (by kernel_rfl) (by kernel_rfl) (wanted_not (j := 11) (d := 27) (bb := false) rfl rfl rfl (by simp [eval_put_ne, eval_put_eq, size_put, hts]) (by simp [size_put, hts])) (fun _ _ _ h => h) ?_
          refine tkNS 19 35 hS0 rfl rfl (by kernel_rfl) (by kernel_rfl) (by kernel_rfl) (by kernel_rfl) (wanted_not (j := 11) (d := 27) (bb := false) rfl rfl rfl (by simp [eval_put_ne, eval_put_eq, size_put, hts]) (by simp [size_put, hts])) (fun _ _ _ h => h) ?_
          refine tkNS 20 36 hS0 rfl rfl (by kernel_rfl) (by kernel_rfl) (by kernel_rfl) (by kernel_rfl) (wanted_not (j := 11) (d := 27) (bb := false) rfl rfl rfl (by simp [eval_put_ne, eval_put_eq, size_put, hts]) (by simp [size_put, hts])) (fun _ _ _ h => h) ?_
          refine tkNS 21 37 hS0 rfl rfl (by kernel_rfl) (by kernel_rfl) (by kernel_rfl) (by kernel_rfl) (wanted_not (j := 11) (d := 27) (bb := false) rfl rfl rfl (by simp [eval_put_ne, eval_put_eq, size_put, hts]) (by simp [size_put, hts])) (fun _ _ _ h => h) ?_
          refine tkNS 22 38 hS0 rfl rfl (by kernel_rfl) (by kernel_rfl) (by kernel_rfl) (by kernel_rfl) (wanted_not (j := 11) (d := 27) (bb := false) rfl rfl rfl (by simp [eval_put_ne, eval_put_eq, size_put, hts]) (by simp [size_put, hts])) (fun _ _ _ h => h) ?_
          refine tkNS 23 39 hS0 rfl rfl (by kernel_rfl) (by kernel_rfl) (by kernel_rfl) (by kernel_rfl) (wanted_not (j := 11) (d := 27) (bb := false) rfl rfl rfl (by simp [eval_put_ne, eval_put_eq, size_put, hts]) (by simp [size_put, hts])) (fun _ _ _ h => h) ?_
          refine tkNS 24 40 hS0 rfl rfl (by kernel_rfl) (by kernel_rfl) (by kernel_rfl) (by kernel_rfl) (wanted_not (j := 11) (d := 27) (bb := false) rfl rfl rfl (by simp [eval_put_ne, eval_put_eq, size_put, hts]) (by simp [size_put, hts])) (fun _ _ _ h => h) ?_
          refine tkS 25 41 (v := .bool true) hS0 rfl rfl (by kernel_rfl) (by kernel_rfl) (by kernel_rfl) (by kernel_rfl) (wanted_none rfl) (fun _ _ _ h => h) (fun U hU => r_pick (by simp [eval_put_ne, eval_put_eq, size_put, hts]) rfl) ?_
          refine doneS (by kernel_rfl) ?_
          have hkr2 := hkr.trans hkw (fun _ _ h => h)
          clear c0w d0w sAw sBw hS0 hkw hheap
          rw [hfr.out]
          clear hfr e0 e1 e5 hts
          simp only [put_lit, put_none, List.set_cons_succ, List.set_cons_zero]
          go_wp2
          go_ret
          exact ⟨rfl, hkr2⟩
      · obtain rfl : n = k := by omega
        go_wp2
        go_ret
        refine ⟨?_, hkr⟩
        have := HG.out
        rw [List.drop_of_length_le (by rw [Ha.out]; omega), List.drop_of_length_le (by rw [Hb.out]; omega)] at this
        rw [← this]
        rfl
  · obtain rfl : r = false := by rw [← HR.out]; exact sameWs_len hl
    have hnn : (((a.length : Nat) : Int) != ((b.length : Nat) : Int)) = true := by simp; omega
    clear HA HB HR
    generalize a.length = n at *
    generalize b.length = m at *
    go_enter Try.func19, Try.ntmps19
    go_wp2
    go_ret
    exact ⟨rfl, Kept.refl _ _⟩
end Go.Proofs.Ytclfklcboigifaa
