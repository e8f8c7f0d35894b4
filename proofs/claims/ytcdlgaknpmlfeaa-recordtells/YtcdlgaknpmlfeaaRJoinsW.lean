/-
  The walk of RecordJoins: lists that are merged by parts are as merged at once.
-/
import Derived.Test.YtcdlgaknpmlfeaaRBackW
namespace Go.Proofs.Ytcdlgaknpmlfeaa
open Go.RowKit Go.Shelf
set_option linter.unusedSimpArgs false
set_option linter.unusedVariables false

section
variable {P : Program} {ops : Array Oper} {Q : Exit → Act → World → Prop} {a : Act} {w w' : World} {rest : List Oper} {o : Oper} {v : Value} {dst : Option Tmp} {ty : TypeId} {pos : String} {aft : Array Edge}
theorem wpList_runG (hg : Region.wanted o (yielded ops a.tmps) = true) (hr : (execOp a.eval o).run P w = .ok (.value v) w') (h : wpList P ops Q rest (a.put o.dst v) w') : wpList P ops Q (o :: rest) a w :=
  wpList_step fun K hK => by rw [if_pos hg]; unfold Oper.wp; rw [hr]; exact hK _ _ h
theorem stop_bsG (t : TypeId) {n : Nat} {es : Array (Nat × Operand)} {g : Nat × Bool} (h : Hid (wpList P ops Q (⟨dst, .buildSlice t n es, ty, pos, aft, some g⟩ :: rest) a w)) : wpList P ops Q (⟨dst, .buildSlice t n es, ty, pos, aft, some g⟩ :: rest) a w := h.out
end
theorem ls_blk {w : World} {g : Nat} {L : List Value} {ls : List (Sl × List Wv)} (hb : Blk w g L 22) (hL : L = ls.map fun x => x.1.v) (hs : ∀ x ∈ ls, WsAt w x.1.v x.2) (n : Nat) (hn : ls.length = n) (hl : n ≤ 1000) : LsAt w (.slice (some ⟨g, 0, none⟩) n n) ls := by
  subst hn
  refine ⟨⟨_, _, by rw [List.length_map], by rw [List.length_map]; exact Nat.le_refl _, fun _ => ⟨g, 0, rfl, fun j v hj => ?_⟩, fun h => by cases h⟩, hs, by omega⟩
  rw [Nat.zero_add, hb.cell, hL]
  exact hj
theorem merge_len (l : List Wr) : (mergeW l).length ≤ l.length := by
  have h : ∀ (l m : List Wr), (l.foldl insW m).length ≤ m.length + l.length := by
    intro l
    induction l with
    | nil => intro m; simp
    | cons x l ih =>
      intro m
      have h1 : ∀ m : List Wr, (insW m x).length ≤ m.length + 1 := by
        intro m
        induction m with
        | nil => simp [insW]
        | cons y m ihm =>
          unfold insW
          split
          · simp
          · split
            · simp
            · simp only [List.length_cons]; omega
      have h2 := ih (insW m x)
      have h3 := h1 m
      simp only [List.foldl_cons, List.length_cons]
      omega
  have := h l []
  simpa [mergeW] using this
theorem merged_len {l : List Wv} {mw : List Wv} (h : mw.map Wv.wr = mergeW (l.map Wv.wr)) : mw.length ≤ l.length := by
  have h1 := merge_len (l.map Wv.wr)
  rw [← h, List.length_map, List.length_map] at h1
  exact h1

set_option maxRecDepth 100000 in
set_option maxHeartbeats 8000000 in
theorem joins_at (w : World) (va vb vc : Value) (a b c : List Wv) (ha : WsAt w va a) (hb : WsAt w vb b) (hc : WsAt w vc c) (hn : a.length + b.length + c.length ≤ 1000000) (hBa : ∀ y ∈ a, y.B.length ≤ 90000000) (hBb : ∀ y ∈ b, y.B.length ≤ 90000000) (hBc : ∀ y ∈ c, y.B.length ≤ 90000000) :
    Calls Try.prog 6 #[va, vb, vc] w fun e w' => e = .returned (.bool true) ∧ Kept (fun _ => False) w w' := by
  obtain ⟨aa, ac, rfl⟩ := ha.slice
  obtain ⟨ba, bc, rfl⟩ := hb.slice
  obtain ⟨ca, cc, rfl⟩ := hc.slice
  have HA := hide ha
  have HB := hide hb
  have HC := hide hc
  have HBa := hide hBa
  have HBb := hide hBb
  have HBc := hide hBc
  clear ha hb hc hBa hBb hBc
  obtain ⟨i22, hi22, hz22, hs22, hb22⟩ := info_parts Try.info22
  have Hi22 := hide hi22
  have Hz22 := hide hz22
  have Hs22 := hide hs22
  clear hi22 hz22 hs22 hb22
  have HN := hide hn
  obtain ⟨na, hna⟩ : ∃ n, n = a.length := ⟨_, rfl⟩
  obtain ⟨nb, hnb⟩ : ∃ n, n = b.length := ⟨_, rfl⟩
  obtain ⟨nc, hnc⟩ : ∃ n, n = c.length := ⟨_, rfl⟩
  rw [← hna] at HA HN ⊢
  rw [← hnb] at HB HN ⊢
  rw [← hnc] at HC HN ⊢
  have Hna := hide hna
  have Hnb := hide hnb
  have Hnc := hide hnc
  clear hna hnb hnc hn
  go_enter Try.func6, Try.ntmps6
  go_wp2_with fail
  refine (first_law w).mono ?_
  rintro e w1 ⟨rfl, hk1⟩
  have HK1 := hide hk1
  clear hk1
  go_wp2_with fail
  refine (great_at w1 ⟨0, 0, 0, ⟨aa, na, ac⟩, a⟩ (HA.out.kept HK1.out)).mono ?_
  rintro e w2 ⟨⟨g1, rfl⟩, hk2⟩
  have HK2 := hide (HK1.out.trans hk2 (fun _ _ h => h))
  clear hk2 HK1
  cases g1 with
  | true =>
    go_wp2
    go_ret
    exact ⟨rfl, HK2.out⟩
  | false =>
  go_wp2_with fail
  refine (great_at w2 ⟨0, 0, 0, ⟨ba, nb, bc⟩, b⟩ (HB.out.kept HK2.out)).mono ?_
  rintro e w3 ⟨⟨g2, rfl⟩, hk3⟩
  have HK3 := hide (HK2.out.trans hk3 (fun _ _ h => h))
  clear hk3 HK2
  cases g2 with
  | true =>
    go_wp2
    go_ret
    exact ⟨rfl, HK3.out⟩
  | false =>
  go_wp2_with fail
  refine (great_at w3 ⟨0, 0, 0, ⟨ca, nc, cc⟩, c⟩ (HC.out.kept HK3.out)).mono ?_
  rintro e w4 ⟨⟨g3, rfl⟩, hk4⟩
  have HK4 := hide (HK3.out.trans hk4 (fun _ _ h => h))
  clear hk4 HK3
  cases g3 with
  | true =>
    go_wp2
    go_ret
    exact ⟨rfl, HK4.out⟩
  | false =>
  have HA4 := hide (HA.out.kept HK4.out)
  have HB4 := hide (HB.out.kept HK4.out)
  have HC4 := hide (HC.out.kept HK4.out)
  go_wp2_with ((with_reducible refine stop_bs 38 ?_))
  refine hide ?_
  refine wpList_run rfl (run_bs1 (M := [.slice aa na ac, .slice ba nb bc, .slice ca nc cc]) Try.underlying38 Hi22.out Hz22.out Hs22.out rfl (by simp) (by simp [Value.cells]) rfl) ?_
  have hbu4 := Blk.new w4 [.slice aa na ac, .slice ba nb bc, .slice ca nc cc] 22
  have hku4 := Kept.alloc (fun _ => False) w4 (.cells [.slice aa na ac, .slice ba nb bc, .slice ca nc cc].toArray 22)
  obtain ⟨gu4, hgu4⟩ : ∃ b, b = w4.heap.size := ⟨_, rfl⟩
  rw [← hgu4] at hbu4 ⊢
  generalize w4.alloc (.cells [.slice aa na ac, .slice ba nb bc, .slice ca nc cc].toArray 22) = u4 at hbu4 hku4 ⊢
  have hlsu4 : LsAt u4 (.slice (some ⟨gu4, 0, none⟩) 3 3) [(⟨aa, na, ac⟩, a), (⟨ba, nb, bc⟩, b), (⟨ca, nc, cc⟩, c)] := ls_blk hbu4 rfl (fun y hy => by
    rcases List.mem_cons.1 hy with rfl | hy
    · exact HA4.out.kept hku4
    rcases List.mem_cons.1 hy with rfl | hy
    · exact HB4.out.kept hku4
    obtain rfl := List.mem_singleton.1 hy
    exact HC4.out.kept hku4) 3 rfl (by decide)
  have havu4 : allV [(⟨aa, na, ac⟩, a), (⟨ba, nb, bc⟩, b), (⟨ca, nc, cc⟩, c)] = a ++ b ++ c := by simp [allV]
  have HMu4 := hide (merge_at u4 _ _ hlsu4 (by
    rw [havu4]
    have := HN.out
    have := Hna.out
    have := Hnb.out
    have := Hnc.out
    simp only [List.length_append]; omega) (fun y hy => by
    rw [havu4] at hy
    simp only [List.mem_append] at hy
    rcases hy with (hy | hy) | hy
    · exact HBa.out y hy
    · exact HBb.out y hy
    · exact HBc.out y hy))
  rw [havu4] at HMu4
  clear havu4 hgu4 hbu4 hlsu4
  go_wp2_with fail
  refine HMu4.out.mono ?_
  rintro e w5 ⟨⟨xa, xn, xc⟩, xw, rfl, hxo, hxm, hxl, hkw5⟩
  have hkkw5 := hku4.trans hkw5 (fun _ _ h => h)
  have hxat : WsAt w5 (.slice xa xn xc) xw := hxo.at (by omega)
  have HX5 := hide hxat
  have Hxm := hide hxm
  have HA5 := hide (HA4.out.kept hkkw5)
  have HB5 := hide (HB4.out.kept hkkw5)
  have HC5 := hide (HC4.out.kept hkkw5)
  have HK5 := hide (HK4.out.trans hkkw5 (fun _ _ h => h))
  clear hku4 HMu4 hxo hxm hxl hkw5 hkkw5 hxat
  clear HA4 HB4 HC4 HK4
  go_wp2_with ((with_reducible refine stop_bs 38 ?_))
  refine hide ?_
  refine wpList_run rfl (run_bs1 (M := [.slice aa na ac, .slice ba nb bc]) Try.underlying38 Hi22.out Hz22.out Hs22.out rfl (by simp) (by simp [Value.cells]) rfl) ?_
  have hbu5 := Blk.new w5 [.slice aa na ac, .slice ba nb bc] 22
  have hku5 := Kept.alloc (fun _ => False) w5 (.cells [.slice aa na ac, .slice ba nb bc].toArray 22)
  obtain ⟨gu5, hgu5⟩ : ∃ b, b = w5.heap.size := ⟨_, rfl⟩
  rw [← hgu5] at hbu5 ⊢
  generalize w5.alloc (.cells [.slice aa na ac, .slice ba nb bc].toArray 22) = u5 at hbu5 hku5 ⊢
  have hlsu5 : LsAt u5 (.slice (some ⟨gu5, 0, none⟩) 2 2) [(⟨aa, na, ac⟩, a), (⟨ba, nb, bc⟩, b)] := ls_blk hbu5 rfl (fun y hy => by
    rcases List.mem_cons.1 hy with rfl | hy
    · exact HA5.out.kept hku5
    obtain rfl := List.mem_singleton.1 hy
    exact HB5.out.kept hku5) 2 rfl (by decide)
  have havu5 : allV [(⟨aa, na, ac⟩, a), (⟨ba, nb, bc⟩, b)] = a ++ b := by simp [allV]
  have HMu5 := hide (merge_at u5 _ _ hlsu5 (by
    rw [havu5]
    have := HN.out
    have := Hna.out
    have := Hnb.out
    simp only [List.length_append]; omega) (fun y hy => by
    rw [havu5] at hy
    simp only [List.mem_append] at hy
    rcases hy with hy | hy
    · exact HBa.out y hy
    · exact HBb.out y hy))
  rw [havu5] at HMu5
  clear havu5 hgu5 hbu5 hlsu5
  go_wp2_with fail
  refine HMu5.out.mono ?_
  rintro e w6 ⟨⟨ya, yn, yc⟩, yw, rfl, hyo, hym, hyl, hkw6⟩
  have hkkw6 := hku5.trans hkw6 (fun _ _ h => h)
  have hyat : WsAt w6 (.slice ya yn yc) yw := hyo.at (by omega)
  have HY6 := hide hyat
  have Hym := hide hym
  have HA6 := hide (HA5.out.kept hkkw6)
  have HB6 := hide (HB5.out.kept hkkw6)
  have HC6 := hide (HC5.out.kept hkkw6)
  have HX6 := hide (HX5.out.kept hkkw6)
  have HK6 := hide (HK5.out.trans hkkw6 (fun _ _ h => h))
  have HBy : Hid (∀ y ∈ yw, y.B.length ≤ 90000000) := hide (merged_le hym (fun y hy => by
    simp only [List.mem_append] at hy
    rcases hy with hy | hy
    · exact HBa.out y hy
    · exact HBb.out y hy))
  have Hny : Hid (yw.length ≤ na + nb) := hide (by have := merged_len hym; have := Hna.out; have := Hnb.out; simp only [List.length_append] at *; omega)
  clear hku5 HMu5 hyo hym hyl hkw6 hkkw6 hyat
  clear HA5 HB5 HC5 HX5 HK5
  go_wp2_with ((with_reducible refine stop_bs 38 ?_))
  refine hide ?_
  refine wpList_run rfl (run_bs1 (M := [.slice ya yn yc, .slice ca nc cc]) Try.underlying38 Hi22.out Hz22.out Hs22.out rfl (by simp) (by simp [Value.cells]) rfl) ?_
  have hbu6 := Blk.new w6 [.slice ya yn yc, .slice ca nc cc] 22
  have hku6 := Kept.alloc (fun _ => False) w6 (.cells [.slice ya yn yc, .slice ca nc cc].toArray 22)
  obtain ⟨gu6, hgu6⟩ : ∃ b, b = w6.heap.size := ⟨_, rfl⟩
  rw [← hgu6] at hbu6 ⊢
  generalize w6.alloc (.cells [.slice ya yn yc, .slice ca nc cc].toArray 22) = u6 at hbu6 hku6 ⊢
  have hlsu6 : LsAt u6 (.slice (some ⟨gu6, 0, none⟩) 2 2) [(⟨ya, yn, yc⟩, yw), (⟨ca, nc, cc⟩, c)] := ls_blk hbu6 rfl (fun y hy => by
    rcases List.mem_cons.1 hy with rfl | hy
    · exact HY6.out.kept hku6
    obtain rfl := List.mem_singleton.1 hy
    exact HC6.out.kept hku6) 2 rfl (by decide)
  have havu6 : allV [(⟨ya, yn, yc⟩, yw), (⟨ca, nc, cc⟩, c)] = yw ++ c := by simp [allV]
  have HMu6 := hide (merge_at u6 _ _ hlsu6 (by
    rw [havu6]
    have := HN.out
    have := Hny.out
    have := Hnc.out
    simp only [List.length_append]; omega) (fun y hy => by
    rw [havu6] at hy
    simp only [List.mem_append] at hy
    rcases hy with hy | hy
    · exact HBy.out y hy
    · exact HBc.out y hy))
  rw [havu6] at HMu6
  clear havu6 hgu6 hbu6 hlsu6
  go_wp2_with fail
  refine HMu6.out.mono ?_
  rintro e w7 ⟨⟨za, zn, zc⟩, zw, rfl, hzo, hzm, hzl, hkw7⟩
  have hkkw7 := hku6.trans hkw7 (fun _ _ h => h)
  have hzat : WsAt w7 (.slice za zn zc) zw := hzo.at (by omega)
  have HZ7 := hide hzat
  have Hzm := hide hzm
  have HA7 := hide (HA6.out.kept hkkw7)
  have HB7 := hide (HB6.out.kept hkkw7)
  have HC7 := hide (HC6.out.kept hkkw7)
  have HX7 := hide (HX6.out.kept hkkw7)
  have HK7 := hide (HK6.out.trans hkkw7 (fun _ _ h => h))
  have hzx : sameWs zw xw = true := (sameWs_iff _ _).2 (by rw [hzm, Hxm.out]; simp only [List.map_append]; rw [Hym.out, List.map_append, merge_left])
  have HZX := hide (sws_at w7 _ _ zw xw hzat HX7.out true hzx)
  clear hzx
  clear hku6 HMu6 hzo hzm hzl hkw7 hkkw7 hzat
  clear HA6 HB6 HC6 HX6 HK6
  go_wp2_with fail
  refine HZX.out.mono ?_
  rintro e w8 ⟨rfl, hk8⟩
  have HA8 := hide (HA7.out.kept hk8)
  have HB8 := hide (HB7.out.kept hk8)
  have HC8 := hide (HC7.out.kept hk8)
  have HX8 := hide (HX7.out.kept hk8)
  have HK8 := hide (HK7.out.trans hk8 (fun _ _ h => h))
  clear hk8 HZX HA7 HB7 HC7 HX7 HK7
  go_wp2_with (first | (with_reducible refine stop_bsG 38 ?_) | fail)
  refine hide ?_
  refine wpList_runG (wanted_some (j := 9) (d := 37) (bb := true) rfl rfl rfl rfl (by simp))  (run_bs1 (M := [.slice ba nb bc, .slice ca nc cc]) Try.underlying38 Hi22.out Hz22.out Hs22.out rfl (by simp) (by simp [Value.cells]) rfl) ?_
  have hbu8 := Blk.new w8 [.slice ba nb bc, .slice ca nc cc] 22
  have hku8 := Kept.alloc (fun _ => False) w8 (.cells [.slice ba nb bc, .slice ca nc cc].toArray 22)
  obtain ⟨gu8, hgu8⟩ : ∃ b, b = w8.heap.size := ⟨_, rfl⟩
  rw [← hgu8] at hbu8 ⊢
  generalize w8.alloc (.cells [.slice ba nb bc, .slice ca nc cc].toArray 22) = u8 at hbu8 hku8 ⊢
  have hlsu8 : LsAt u8 (.slice (some ⟨gu8, 0, none⟩) 2 2) [(⟨ba, nb, bc⟩, b), (⟨ca, nc, cc⟩, c)] := ls_blk hbu8 rfl (fun y hy => by
    rcases List.mem_cons.1 hy with rfl | hy
    · exact HB8.out.kept hku8
    obtain rfl := List.mem_singleton.1 hy
    exact HC8.out.kept hku8) 2 rfl (by decide)
  have havu8 : allV [(⟨ba, nb, bc⟩, b), (⟨ca, nc, cc⟩, c)] = b ++ c := by simp [allV]
  have HMu8 := hide (merge_at u8 _ _ hlsu8 (by
    rw [havu8]
    have := HN.out
    have := Hnb.out
    have := Hnc.out
    simp only [List.length_append]; omega) (fun y hy => by
    rw [havu8] at hy
    simp only [List.mem_append] at hy
    rcases hy with hy | hy
    · exact HBb.out y hy
    · exact HBc.out y hy))
  rw [havu8] at HMu8
  clear havu8 hgu8 hbu8 hlsu8
  go_wp2_with fail
  refine HMu8.out.mono ?_
  rintro e w9 ⟨⟨pa, pn, pc⟩, pw, rfl, hpo, hpm, hpl, hkw9⟩
  have hkkw9 := hku8.trans hkw9 (fun _ _ h => h)
  have hpat : WsAt w9 (.slice pa pn pc) pw := hpo.at (by omega)
  have HP9 := hide hpat
  have Hpm := hide hpm
  have HA9 := hide (HA8.out.kept hkkw9)
  have HB9 := hide (HB8.out.kept hkkw9)
  have HC9 := hide (HC8.out.kept hkkw9)
  have HX9 := hide (HX8.out.kept hkkw9)
  have HK9 := hide (HK8.out.trans hkkw9 (fun _ _ h => h))
  have HBp : Hid (∀ y ∈ pw, y.B.length ≤ 90000000) := hide (merged_le hpm (fun y hy => by
    simp only [List.mem_append] at hy
    rcases hy with hy | hy
    · exact HBb.out y hy
    · exact HBc.out y hy))
  have Hnp : Hid (pw.length ≤ nb + nc) := hide (by have := merged_len hpm; have := Hnb.out; have := Hnc.out; simp only [List.length_append] at *; omega)
  clear hku8 HMu8 hpo hpm hpl hkw9 hkkw9 hpat
  clear HA8 HB8 HC8 HX8 HK8
  go_wp2_with (first | (with_reducible refine stop_bsG 38 ?_) | fail)
  refine hide ?_
  refine wpList_runG (wanted_some (j := 9) (d := 37) (bb := true) rfl rfl rfl rfl (by simp))  (run_bs1 (M := [.slice aa na ac, .slice pa pn pc]) Try.underlying38 Hi22.out Hz22.out Hs22.out rfl (by simp) (by simp [Value.cells]) rfl) ?_
  have hbu9 := Blk.new w9 [.slice aa na ac, .slice pa pn pc] 22
  have hku9 := Kept.alloc (fun _ => False) w9 (.cells [.slice aa na ac, .slice pa pn pc].toArray 22)
  obtain ⟨gu9, hgu9⟩ : ∃ b, b = w9.heap.size := ⟨_, rfl⟩
  rw [← hgu9] at hbu9 ⊢
  generalize w9.alloc (.cells [.slice aa na ac, .slice pa pn pc].toArray 22) = u9 at hbu9 hku9 ⊢
  have hlsu9 : LsAt u9 (.slice (some ⟨gu9, 0, none⟩) 2 2) [(⟨aa, na, ac⟩, a), (⟨pa, pn, pc⟩, pw)] := ls_blk hbu9 rfl (fun y hy => by
    rcases List.mem_cons.1 hy with rfl | hy
    · exact HA9.out.kept hku9
    obtain rfl := List.mem_singleton.1 hy
    exact HP9.out.kept hku9) 2 rfl (by decide)
  have havu9 : allV [(⟨aa, na, ac⟩, a), (⟨pa, pn, pc⟩, pw)] = a ++ pw := by simp [allV]
  have HMu9 := hide (merge_at u9 _ _ hlsu9 (by
    rw [havu9]
    have := HN.out
    have := Hna.out
    have := Hnp.out
    simp only [List.length_append]; omega) (fun y hy => by
    rw [havu9] at hy
    simp only [List.mem_append] at hy
    rcases hy with hy | hy
    · exact HBa.out y hy
    · exact HBp.out y hy))
  rw [havu9] at HMu9
  clear havu9 hgu9 hbu9 hlsu9
  go_wp2_with fail
  refine HMu9.out.mono ?_
  rintro e w10 ⟨⟨qa, qn, qc⟩, qw, rfl, hqo, hqm, hql, hkw10⟩
  have hkkw10 := hku9.trans hkw10 (fun _ _ h => h)
  have hqat : WsAt w10 (.slice qa qn qc) qw := hqo.at (by omega)
  have HQ10 := hide hqat
  have Hqm := hide hqm
  have HA10 := hide (HA9.out.kept hkkw10)
  have HB10 := hide (HB9.out.kept hkkw10)
  have HC10 := hide (HC9.out.kept hkkw10)
  have HX10 := hide (HX9.out.kept hkkw10)
  have HK10 := hide (HK9.out.trans hkkw10 (fun _ _ h => h))
  have hqx : sameWs qw xw = true := (sameWs_iff _ _).2 (by rw [hqm, Hxm.out]; simp only [List.map_append]; rw [Hpm.out, List.map_append, merge_right, List.append_assoc])
  have HQX := hide (sws_at w10 _ _ qw xw hqat HX10.out true hqx)
  clear hqx
  clear hku9 HMu9 hqo hqm hql hkw10 hkkw10 hqat
  clear HA9 HB9 HC9 HX9 HK9
  go_wp2_with fail
  refine HQX.out.mono ?_
  rintro e w11 ⟨rfl, hk11⟩
  have HK11 := hide (HK10.out.trans hk11 (fun _ _ h => h))
  go_wp2
  go_ret
  exact ⟨rfl, HK11.out⟩
end Go.Proofs.Ytcdlgaknpmlfeaa
