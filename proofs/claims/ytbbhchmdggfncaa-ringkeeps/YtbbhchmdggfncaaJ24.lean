/-
  Add, of package ring, where it turns to the next segment.
-/
import Derived.Test.YtbbhchmdggfncaaJ23
namespace Go.Proofs.Ytbbhchmdggfncaa
open Go.RowKit Go.Shelf
set_option linter.unusedSimpArgs false
set_option linter.unusedVariables false
set_option maxRecDepth 100000

/-- What such an Add answers, and what it makes of the device. -/
def aErr (s : D.DS) (a1 : Nat) (A1 : List Nat) (a2 mh : Nat) (A2 : List Nat) : Int := if tErr s a1 A1 = 0 then wErr (tDev s a1 A1 a2 mh A2) else tErr s a1 A1
def aDev (s : D.DS) (a1 : Nat) (A1 : List Nat) (a2 mh : Nat) (A2 : List Nat) (a3 m : Nat) (A3 : List Nat) : D.DS := if tErr s a1 A1 = 0 then wDev (tDev s a1 A1 a2 mh A2) a3 m A3 else tDev s a1 A1 a2 mh A2
theorem tDev_ws (s : D.DS) (a : Nat) (A : List Nat) (a2 m : Nat) (A2 : List Nat) : (tDev s a A a2 m A2).ws.length ≤ s.ws.length + 1 + m := by
  have h1 := wDev_ws s a 1 A
  have h2 := wDev_ws (wDev s a 1 A) a2 m A2
  unfold tDev; split <;> omega
theorem tDev_calls (s : D.DS) (a : Nat) (A : List Nat) (a2 m : Nat) (A2 : List Nat) : (tDev s a A a2 m A2).calls ≤ s.calls + 2 := by
  have h1 := wDev_calls s a 1 A
  have h2 := wDev_calls (wDev s a 1 A) a2 m A2
  unfold tDev; split <;> omega

set_option maxHeartbeats 8000000 in
theorem rgadd_turn (w : World) (b n : Nat) (l : Lg) (s : D.DS) (F : Nat → Prop) (h : LogAt w b l) (hd : D.DevAt w l.db n s F) (hFb : ¬ F b) (hz : 1 ≤ l.sz ∧ l.sz ≤ 64) (hg : 1 ≤ l.sg ∧ l.sg ≤ 64) (hr : l.fr + l.sg * l.sz ≤ n)
    (hp : l.en ≤ 4611686018427300000) (ep low : Int) (hep : 0 ≤ ep ∧ ep ≤ 4294967295) (x : Rv) (hx : ∀ w', Kept F w w' → RcAt w' x) (B : List Nat) (hB : putRN x.rc = B) (hl : B.length ≤ 10000) (h0 : 0 < B.length) (m : Nat) (hm : sectN B.length = m)
    (hec : roomE l x.rc m low = 0) (hno : ¬ l.en % l.sz + m < l.sz) (Bh : List Nat) (hBh : putRN ⟨1, x.tl, x.nm, []⟩ = Bh) (hlh : Bh.length ≤ 10000) (h0h : 0 < Bh.length) (mh : Nat) (hmh : sectN Bh.length = mh) (hfit : mh + m ≤ l.sz)
    (a1 : Nat) (ha1 : l.fr + l.en / l.sz % l.sg * l.sz + l.en % l.sz = a1) (A1 : List Nat) (hA1 : (sectorsOf l.en (fun _ => ep) [2]).flatten = A1)
    (q : Nat) (hq : q = l.en - l.en % l.sz) (a2 : Nat) (ha2 : l.fr + (q + l.sz) / l.sz % l.sg * l.sz + (q + l.sz) % l.sz = a2) (A2 : List Nat) (hA2 : (sectorsOf ((q + l.sz : Nat) : Int) (fun _ => ep) Bh).flatten = A2)
    (p : Nat) (hpq : p = q + l.sz + mh) (a3 : Nat) (ha3 : l.fr + p / l.sz % l.sg * l.sz + p % l.sz = a3) (A3 : List Nat) (hA3 : (sectorsOf p (fun _ => ep) B).flatten = A3) (hfit3 : p % l.sz + m ≤ l.sz)
    (hc : s.calls < 4611686018427380000) (hlen : s.ws.length + 1 + mh + m < 1000000000) (ec : Int) (hee : aErr s a1 A1 a2 mh A2 = ec) :
    Calls Try.prog 9 #[.pointer (some ⟨b, 0, none⟩), x.agg, .int .i64 ep, .int .i64 low] w fun e w' => e = .returned (.tuple #[.int .i64 (if ec = 0 then (p : Int) else 0), .int .i64 ec]) ∧ RStep w w' b n (if ec = 0 then { l with en := p + m } else l) (aDev s a1 A1 a2 mh A2 a3 m A3) F := by
  have hn : (if B.length = 0 then 0 else sectN B.length) = m := by rw [if_neg (by omega)]; exact hm
  have hbw : b < w.heap.size := (Array.getElem?_eq_some_iff.1 h).1
  have hmono : ∀ w', Kept (fun _ => False) w w' → Kept F w w' := fun w' hk => hk.mono (fun _ _ h => h.elim)
  obtain ⟨e1, he1⟩ : ∃ e, tErr s a1 A1 = e := ⟨_, rfl⟩
  obtain ⟨s2, hs2⟩ : ∃ t, tDev s a1 A1 a2 mh A2 = t := ⟨_, rfl⟩
  obtain ⟨e2, he2⟩ : ∃ e, wErr s2 = e := ⟨_, rfl⟩
  have hec2 : (if e1 = 0 then e2 else e1) = ec := by rw [← hee]; unfold aErr; rw [he1, hs2, he2]
  have hdev : (if e1 = 0 then wDev s2 a3 m A3 else s2) = aDev s a1 A1 a2 mh A2 a3 m A3 := by unfold aDev; rw [he1, hs2]
  have hws := tDev_ws s a1 A1 a2 mh A2
  have hcl := tDev_calls s a1 A1 a2 mh A2
  rw [hs2] at hws hcl
  have hq2 : q ≤ l.en := by omega
  have HRo := hide (fun (w' : World) (hk : Kept (fun _ => False) w w') => rgroom_at w' b l (h.kept hk) x (hx w' (hmono w' hk)) low hz hg.2 (by omega) B hB hl m hn (by omega) 0 hec)
  have HGi := hide (fun (w' : World) (hk : Kept (fun _ => False) w w') => goesIn_at w' b l (h.kept hk) x (hx w' (hmono w' hk)) hz (by omega) B hB hl m hn (by omega) false (by simpa using hno))
  have HTu := hide (fun (w' : World) (hk : Kept (fun _ => False) w w') => rgturn_at w' b n l s F (h.kept hk) (hd.kept hk (fun _ _ h => h)) hFb hz hg hr hp ep hep ⟨1, x.tl, x.nm, ⟨none, 0, 0⟩, []⟩ (fun w2 _ => WsAt.nil w2) Bh hBh hlh h0h mh hmh (by omega) a1 ha1 A1 hA1 q hq a2 ha2 A2 hA2 (by omega) (by omega) e1 he1)
  rw [hs2] at HTu
  have HPu := hide (fun (w' : World) (F' : Nat → Prop) (hL : LogAt w' b l) (hD : D.DevAt w' l.db n s2 F') (hb' : ¬ F' b) (hX : ∀ w2, Kept F' w' w2 → RcAt w2 x) => rgput_at w' b n l s2 F' hL hD hb' hz hg hr p (by omega) ep hep x hX B hB hl h0 m hm hfit3 a3 ha3 A3 hA3 (by omega) (by omega) e2 he2)
  have HEi := hide (fun W => epoch_at W ep true (by simp; omega))
  have HL0 := hide h
  have HFb := hide hFb
  have Hbw := hide hbw
  have HX0 := hide hx
  have HEc := hide hec2
  have HDev := hide hdev
  have Hpq := hide hpq
  have HFlt := hide hd.lt
  clear h hd hFb hx hz hg hr hp hep hB hl h0 hm hec hno hBh hlh h0h hmh hfit ha1 hA1 hq ha2 hA2 hpq ha3 hA3 hfit3 hc hlen hee hn hbw hmono he1 hs2 he2 hec2 hdev hws hcl hq2
  obtain ⟨xk, xt, xm, ⟨xa, xn, xc⟩, xw⟩ := x
  simp only [Rv.agg] at HRo HGi HPu HTu
  go_enter Try.func9, Try.ntmps9
  go_wp2_with (first
    | ((with_reducible refine aw_box (t := 37) (v := rAgg xk xt xm ⟨xa, xn, xc⟩) rfl ?_); intro w1 hb1 hk1 hz1; clear hz1)
    | (with_reducible refine aw_load (t := 37) (M := [.int .i64 xk, .int .i64 xt, .int .i64 xm, .slice xa xn xc]) Try.agg37 rfl hb1 (by simp [Value.cells]) (by simp [Value.cells]) ?_)
    | fail)
  refine (HRo.out w1 hk1).mono ?_
  rintro e w2 ⟨rfl, hk2⟩
  obtain ⟨c, hc⟩ : ∃ c, c = w.heap.size := ⟨_, rfl⟩
  have HFc0 : Hid (¬ F c) := hide (fun h => by have := HFlt.out c h; omega)
  have Hcw : Hid (w.heap.size ≤ c) := hide (by omega)
  rw [← hc] at hb1 ⊢
  have HC2 : Hid (Blk w2 c [.int .i64 xk, .int .i64 xt, .int .i64 xm, .slice xa xn xc] 37) := hide (hk2.blk hb1 (fun h => h))
  have HK2 := hide (hk1.trans hk2 (fun _ _ h => h))
  clear hb1 hk1 hk2 hc
  go_wp2_with fail
  refine (HEi.out w2).mono ?_
  rintro e w' ⟨rfl, rfl⟩
  have c4 := (HL0.out.kept HK2.out).cell 4
  simp only [List.getElem?_cons_succ, List.getElem?_cons_zero] at c4
  go_wp2_with (first
    | (with_reducible refine aw_load (t := 37) (M := [.int .i64 xk, .int .i64 xt, .int .i64 xm, .slice xa xn xc]) Try.agg37 rfl HC2.out (by simp [Value.cells]) (by simp [Value.cells]) ?_)
    | fail)
  refine (HGi.out w2 HK2.out).mono ?_
  rintro e w3 ⟨rfl, hk3⟩
  have HK3 := hide (HK2.out.trans hk3 (fun _ _ h => h))
  have HC3 := hide (hk3.blk HC2.out (fun h => h))
  clear hk3 c4
  have ct := HC3.out.cell 1
  have cm := HC3.out.cell 2
  simp only [List.getElem?_cons_succ, List.getElem?_cons_zero] at ct cm
  go_wp2_with fail
  refine (head_at w3 xt xm).mono ?_
  rintro e w4 ⟨rfl, hk4⟩
  have HK4 := hide (HK3.out.trans hk4 (fun _ _ h => h))
  have HC4 := hide (hk4.blk HC3.out (fun h => h))
  clear hk4 ct cm
  go_wp2_with fail
  refine (HTu.out w4 HK4.out).mono ?_
  rintro e w5 ⟨rfl, hst⟩
  have HSt0 := hide (DevStep.pre HK4.out hst)
  have HL5 := hide (hst.1.blk (HL0.out.kept HK4.out) HFb.out)
  have HC5 := hide (hst.1.blk HC4.out HFc0.out)
  clear hst
  by_cases h1 : e1 = 0
  · subst h1
    have hecq : e2 = ec := HEc.out
    subst hecq
    obtain ⟨hkF, F', hd1, hF'⟩ := HSt0.out
    have hb1 : ¬ F' b := fun h => (hF' b h).elim HFb.out (fun h => by have := Hbw.out; omega)
    have HX5 : Hid (∀ w2, Kept F' w5 w2 → RcAt w2 ⟨xk, xt, xm, ⟨xa, xn, xc⟩, xw⟩) := hide (fun w2 hk => HX0.out w2 (hkF.trans hk (fun i hi h => (hF' i h).elim id (fun h => by omega))))
    have HP5 := hide (HPu.out w5 F' HL5.out hd1 hb1 HX5.out)
    have HKF := hide hkF
    have HF' := hide hF'
    have hpe : ((q : Int) + l.sz + mh) = p := by rw [Hpq.out]; simp
    have hpe2 : ((q + l.sz + mh : Nat) : Int) = p := by rw [Hpq.out]
    clear hkF hd1 hF' hb1
    simp only [if_true, hpe2]
    go_wp2_with (first
      | (with_reducible refine aw_load (t := 37) (M := [.int .i64 xk, .int .i64 xt, .int .i64 xm, .slice xa xn xc]) Try.agg37 rfl HC5.out (by simp [Value.cells]) (by simp [Value.cells]) ?_)
      | fail)
    refine HP5.out.mono ?_
    rintro e w6 ⟨rfl, hst⟩
    have HSt1 := hide (DevStep.trans HKF.out HF'.out hst)
    have HL6 : Hid (LogAt w6 b l) := hide (hst.1.blk HL5.out (fun h => (HF'.out b h).elim HFb.out (fun h => by have := Hbw.out; omega)))
    clear hst hpe hpe2
    by_cases h2 : e2 = 0
    · subst h2
      have c4 := HL6.out.cell 4
      simp only [List.getElem?_cons_succ, List.getElem?_cons_zero] at c4
      have f4 : w6.frozen? ⟨b, 4, none⟩ = false := Blk.frozen HL6.out 4
      go_wp2
      go_ret2
      refine ⟨by first | rfl | simp, ?_⟩
      rw [← HDev.out]
      exact RStep.setEnd Hbw.out HFb.out HL6.out HSt1.out (p + m)
    · go_wp2
      go_ret2
      refine ⟨by simp [h2], ?_⟩
      rw [← HDev.out]
      first | exact RStep.ofDev Hbw.out HFb.out HL6.out HSt1.out | (rw [if_neg h2]; exact RStep.ofDev Hbw.out HFb.out HL6.out HSt1.out)
  · have hecq : e1 = ec := by have := HEc.out; rw [if_neg h1] at this; exact this
    subst hecq
    go_wp2
    go_ret2
    refine ⟨by simp [h1], ?_⟩
    rw [← HDev.out]
    simp only [if_neg h1]
    first | exact RStep.ofDev Hbw.out HFb.out HL5.out HSt0.out | (rw [if_neg h1]; exact RStep.ofDev Hbw.out HFb.out HL5.out HSt0.out)
end Go.Proofs.Ytbbhchmdggfncaa


/-
  End and Fresh, of package ring.
-/
namespace Go.Proofs.Ytbbhchmdggfncaa
open Go.RowKit Go.Shelf
set_option linter.unusedSimpArgs false
set_option linter.unusedVariables false
set_option maxRecDepth 100000

section
variable {ρ : Operand → Value} {w : World} {dst : Option Tmp} {ty : TypeId} {pos : String} {aft : Array Edge} {gd : Option (Nat × Bool)} {x y z : Operand}
theorem r_rgeql {i j : Int} {r : Bool} (hx : ρ x = .int .i64 i) (hy : ρ y = .int .i64 j) (h : decide (i = j) = r) : (execOp ρ ⟨dst, .binOp .eql 3 x y 3, ty, pos, aft, gd⟩).run Try.prog w = .ok (.value (.bool r)) w := by
  subst h
  go_simp
  rfl
end
theorem rgend_at (w : World) (b : Nat) (l : Lg) (h : LogAt w b l) : Calls Try.prog 13 #[.pointer (some ⟨b, 0, none⟩)] w fun e w' => e = .returned (.int .i64 l.en) ∧ w = w' := by
  have c4 := h.cell 4
  simp only [List.getElem?_cons_succ, List.getElem?_cons_zero] at c4
  have HM := hide (made_at w b l h)
  clear h
  go_enter Try.func13, Try.ntmps13
  go_wp2_with (go_at_call 22; refine HM.out.mono ?_; rintro e w' ⟨rfl, rfl⟩)
  go_ret
  exact ⟨rfl, rfl⟩
set_option maxHeartbeats 4000000 in
theorem rgfresh_at (w : World) (b : Nat) (l : Lg) (h : LogAt w b l) (hz : 1 ≤ l.sz ∧ l.sz ≤ 64) (he : l.en ≤ 4611686018427387904) (r : Bool) (hr : decide (l.en % l.sz = 1) = r) :
    Calls Try.prog 19 #[.pointer (some ⟨b, 0, none⟩)] w fun e w' => e = .returned (.bool r) ∧ Kept (fun _ => False) w w' := by
  obtain ⟨m, hm⟩ : ∃ m, l.en % l.sz = m := ⟨_, rfl⟩
  rw [hm] at hr
  have hr2 : decide ((m : Int) = 1) = r := by rw [← hr]; exact decide_eq_decide.2 (by omega)
  have HL := hide h
  have HZ0 := hide hz
  have HEn := hide he
  have Hm := hide hm
  have Hr := hide hr2
  clear h hz he hm hr hr2
  go_enter Try.func19, Try.ntmps19
  go_wp2_with fail
  refine hold_frame (p := fun fr => Code.wp Try.prog _ _ fr _) ?_
  intro fr hfr
  have e0 : fr.eval (.tmp 0) = .pointer (some ⟨b, 0, none⟩) := by rw [hfr.out]; rfl
  have hts : fr.tmps.size = 17 := by rw [hfr.out]; rfl
  refine region_S0 99 Try.mixed ?_
  intro w0 hkw hheap
  have HLw := HL.out.kept hkw
  have hS0 : Kept (fun _ => False) w0 w0 := Kept.refl (fun _ => False) w0
  refine ⟨Kept (fun _ => False) w0, ?_⟩
  refine tkS 0 3 (v := .pointer (some ⟨b, 0, none⟩)) hS0 rfl rfl (by kernel_rfl) (by kernel_rfl) (by kernel_rfl) (by kernel_rfl) (wanted_none rfl) (fun _ _ _ h => h) (fun U hU => r_move (by simp [eval_put_ne, eval_put_eq, size_put, hts, e0])) ?_
  refine oneCS 1 4 (by kernel_rfl) rfl rfl (wanted_none rfl) (r_call1 Try.func22 (by kernel_rfl) rfl rfl (by simp [eval_put_ne, eval_put_eq, size_put, hts])) (made_at w0 b l HLw) ?_
  rintro e v1 ⟨rfl, rfl⟩
  refine ⟨_, rfl, hS0, ?_⟩
  refine tkS 2 5 (v := .bool true) hS0 rfl rfl (by kernel_rfl) (by kernel_rfl) (by kernel_rfl) (by kernel_rfl) (wanted_none rfl) (fun _ _ _ h => h) (fun U hU => r_move (by simp [eval_put_ne, eval_put_eq, size_put, hts])) ?_
  refine tkS 3 6 (v := .pointer (some ⟨b, 0, none⟩)) hS0 rfl rfl (by kernel_rfl) (by kernel_rfl) (by kernel_rfl) (by kernel_rfl) (wanted_some (j := 2) (d := 5) (bb := true) rfl rfl rfl (by simp [eval_put_ne, eval_put_eq, size_put, hts]) (by simp [size_put, hts])) (fun _ _ _ h => h) (fun U hU => r_move (by simp [eval_put_ne, eval_put_eq, size_put, hts, e0])) ?_
  refine tkS 4 7 (v := .pointer (some ⟨b, 0, none⟩)) hS0 rfl rfl (by kernel_rfl) (by kernel_rfl) (by kernel_rfl) (by kernel_rfl) (wanted_some (j := 2) (d := 5) (bb := true) rfl rfl rfl (by simp [eval_put_ne, eval_put_eq, size_put, hts]) (by simp [size_put, hts])) (fun _ _ _ h => h) (fun U hU => r_nilChk (by simp [eval_put_ne, eval_put_eq, size_put, hts])) ?_
  refine tkS 5 8 (v := .pointer (some ⟨b, 4, none⟩)) hS0 rfl rfl (by kernel_rfl) (by kernel_rfl) (by kernel_rfl) (by kernel_rfl) (wanted_some (j := 2) (d := 5) (bb := true) rfl rfl rfl (by simp [eval_put_ne, eval_put_eq, size_put, hts]) (by simp [size_put, hts])) (fun _ _ _ h => h) (fun U hU => r_f66 (b := b) (k := 4) (by decide) (by simp [eval_put_ne, eval_put_eq, size_put, hts])) ?_
  refine tkS 6 9 (v := .int .i64 l.en) hS0 rfl rfl (by kernel_rfl) (by kernel_rfl) (by kernel_rfl) (by kernel_rfl) (wanted_some (j := 2) (d := 5) (bb := true) rfl rfl rfl (by simp [eval_put_ne, eval_put_eq, size_put, hts]) (by simp [size_put, hts])) (fun _ _ _ h => h) (fun U hU => r_ld3 (b := b) (o := 4) (by simp [eval_put_ne, eval_put_eq, size_put, hts]) ((HLw.kept ((hS0).trans hU (fun _ _ h => h))).cell 4)) ?_
  refine tkS 7 10 (v := .pointer (some ⟨b, 0, none⟩)) hS0 rfl rfl (by kernel_rfl) (by kernel_rfl) (by kernel_rfl) (by kernel_rfl) (wanted_some (j := 2) (d := 5) (bb := true) rfl rfl rfl (by simp [eval_put_ne, eval_put_eq, size_put, hts]) (by simp [size_put, hts])) (fun _ _ _ h => h) (fun U hU => r_move (by simp [eval_put_ne, eval_put_eq, size_put, hts, e0])) ?_
  refine tkS 8 11 (v := .pointer (some ⟨b, 0, none⟩)) hS0 rfl rfl (by kernel_rfl) (by kernel_rfl) (by kernel_rfl) (by kernel_rfl) (wanted_some (j := 2) (d := 5) (bb := true) rfl rfl rfl (by simp [eval_put_ne, eval_put_eq, size_put, hts]) (by simp [size_put, hts])) (fun _ _ _ h => h) (fun U hU => r_nilChk (by simp [eval_put_ne, eval_put_eq, size_put, hts])) ?_
  refine tkS 9 12 (v := .pointer (some ⟨b, 3, none⟩)) hS0 rfl rfl (by kernel_rfl) (by kernel_rfl) (by kernel_rfl) (by kernel_rfl) (wanted_some (j := 2) (d := 5) (bb := true) rfl rfl rfl (by simp [eval_put_ne, eval_put_eq, size_put, hts]) (by simp [size_put, hts])) (fun _ _ _ h => h) (fun U hU => r_f66 (b := b) (k := 3) (by decide) (by simp [eval_put_ne, eval_put_eq, size_put, hts])) ?_
  refine tkS 10 13 (v := .int .i64 l.sz) hS0 rfl rfl (by kernel_rfl) (by kernel_rfl) (by kernel_rfl) (by kernel_rfl) (wanted_some (j := 2) (d := 5) (bb := true) rfl rfl rfl (by simp [eval_put_ne, eval_put_eq, size_put, hts]) (by simp [size_put, hts])) (fun _ _ _ h => h) (fun U hU => r_ld3 (b := b) (o := 3) (by simp [eval_put_ne, eval_put_eq, size_put, hts]) ((HLw.kept ((hS0).trans hU (fun _ _ h => h))).cell 3)) ?_
  refine tkS 11 14 (v := .int .i64 m) hS0 rfl rfl (by kernel_rfl) (by kernel_rfl) (by kernel_rfl) (by kernel_rfl) (wanted_some (j := 2) (d := 5) (bb := true) rfl rfl rfl (by simp [eval_put_ne, eval_put_eq, size_put, hts]) (by simp [size_put, hts])) (fun _ _ _ h => h) (fun U hU => r_rgrem (i := l.en) (j := l.sz) (q := m) (by simp [eval_put_ne, eval_put_eq, size_put, hts]) (by simp [eval_put_ne, eval_put_eq, size_put, hts]) HZ0.out HEn.out Hm.out) ?_
  refine tkS 12 15 (v := .bool r) hS0 rfl rfl (by kernel_rfl) (by kernel_rfl) (by kernel_rfl) (by kernel_rfl) (wanted_some (j := 2) (d := 5) (bb := true) rfl rfl rfl (by simp [eval_put_ne, eval_put_eq, size_put, hts]) (by simp [size_put, hts])) (fun _ _ _ h => h) (fun U hU => r_rgeql (i := (m : Int)) (j := 1) (by simp [eval_put_ne, eval_put_eq, size_put, hts]) rfl Hr.out) ?_
  refine tkS 13 16 (v := .bool r) hS0 rfl rfl (by kernel_rfl) (by kernel_rfl) (by kernel_rfl) (by kernel_rfl) (wanted_none rfl) (fun _ _ _ h => h) (fun U hU => r_pick (by simp [eval_put_ne, eval_put_eq, size_put, hts]) (by simp [eval_put_ne, eval_put_eq, size_put, hts])) ?_
  refine tkS 14 2 (v := .bool r) hS0 rfl rfl (by kernel_rfl) (by kernel_rfl) (by kernel_rfl) (by kernel_rfl) (wanted_none rfl) (fun _ _ _ h => h) (fun U hU => r_assign (by simp [eval_put_ne, eval_put_eq, size_put, hts])) ?_
  refine doneS (by kernel_rfl) ?_
  rw [hfr.out]
  clear hfr e0 hts
  simp only [put_lit, put_none, List.set_cons_succ, List.set_cons_zero]
  have HK1 := hide hkw
  clear hS0 hkw hheap HLw HL

  go_wp2
  go_ret
  exact ⟨rfl, HK1.out⟩
end Go.Proofs.Ytbbhchmdggfncaa


/-
  Turn, of package ring, where it turns.
-/
namespace Go.Proofs.Ytbbhchmdggfncaa
open Go.RowKit Go.Shelf
set_option linter.unusedSimpArgs false
set_option linter.unusedVariables false
set_option maxRecDepth 100000

set_option maxHeartbeats 8000000 in
theorem rgTurn_go (w : World) (b n : Nat) (l : Lg) (s : D.DS) (F : Nat → Prop) (h : LogAt w b l) (hd : D.DevAt w l.db n s F) (hFb : ¬ F b) (hz : 1 ≤ l.sz ∧ l.sz ≤ 64) (hg : 1 ≤ l.sg ∧ l.sg ≤ 64) (hr : l.fr + l.sg * l.sz ≤ n)
    (hp : l.en ≤ 4611686018427300000) (ep low : Int) (hep : 0 ≤ ep ∧ ep ≤ 4294967295) (tl num : Int) (hrt : rightR ⟨1, tl, num, []⟩ = true) (h0 : ¬ l.en = 0) (hf : ¬ l.en % l.sz = 1) (hmt : ((l.en / l.sz : Nat) : Int) + 1 - l.sg < low)
    (Bh : List Nat) (hBh : putRN ⟨1, tl, num, []⟩ = Bh) (hlh : Bh.length ≤ 10000) (h0h : 0 < Bh.length) (mh : Nat) (hmh : sectN Bh.length = mh) (hfit : mh ≤ l.sz)
    (a1 : Nat) (ha1 : l.fr + l.en / l.sz % l.sg * l.sz + l.en % l.sz = a1) (A1 : List Nat) (hA1 : (sectorsOf l.en (fun _ => ep) [2]).flatten = A1)
    (q : Nat) (hq : q = l.en - l.en % l.sz) (a2 : Nat) (ha2 : l.fr + (q + l.sz) / l.sz % l.sg * l.sz + (q + l.sz) % l.sz = a2) (A2 : List Nat) (hA2 : (sectorsOf ((q + l.sz : Nat) : Int) (fun _ => ep) Bh).flatten = A2)
    (hc : s.calls < 4611686018427387000) (hlen : s.ws.length + 1 + mh < 1000000000) (ec : Int) (hee : tErr s a1 A1 = ec) :
    Calls Try.prog 18 #[.pointer (some ⟨b, 0, none⟩), .int .i64 ep, .int .i64 low, .int .i64 tl, .int .i64 num] w fun e w' => e = .returned (.int .i64 ec) ∧ RStep w w' b n (if ec = 0 then { l with en := q + l.sz + mh } else l) (tDev s a1 A1 a2 mh A2) F := by
  have hbw : b < w.heap.size := (Array.getElem?_eq_some_iff.1 h).1
  have HEi := hide (fun W => epoch_at W ep true (by simp; omega))
  have HFr := hide (fun (w' : World) (hk : Kept (fun _ => False) w w') => rgfresh_at w' b l (h.kept hk) hz (by omega) false (by simpa using hf))
  have HMt := hide (fun (w' : World) (hk : Kept (fun _ => False) w w') => mayTurn_at w' b l (h.kept hk) low hz hg.2 (by omega) true (by simpa using hmt))
  have HTu := hide (fun (w' : World) (hk : Kept (fun _ => False) w w') => rgturn_at w' b n l s F (h.kept hk) (hd.kept hk (fun _ _ h => h)) hFb hz hg hr hp ep hep ⟨1, tl, num, ⟨none, 0, 0⟩, []⟩ (fun w2 _ => WsAt.nil w2) Bh hBh hlh h0h mh hmh hfit a1 ha1 A1 hA1 q hq a2 ha2 A2 hA2 hc hlen ec hee)
  have HL0 := hide h
  have HFb := hide hFb
  have Hbw := hide hbw
  have HRt := hide hrt
  have HFlt := hide hd.lt
  obtain ⟨en, hen⟩ : ∃ e, e = l.en := ⟨_, rfl⟩
  have h0' : ¬ (en : Int) = 0 := by omega
  have Hen := hide hen
  obtain ⟨i37, hi37, hz37, hs37, hb37⟩ := info_parts Try.info37
  have Hi37 := hide hi37
  have Hz37 := hide hz37
  clear hi37 hz37 hs37 hb37 h hd hFb hz hg hr hp hep hrt h0 hf hmt hBh hlh h0h hmh hfit ha1 hA1 hq ha2 hA2 hc hlen hee hbw hen
  simp only [Rv.agg] at HTu
  go_enter Try.func18, Try.ntmps18
  go_wp2_with fail
  refine (made_at w b l HL0.out).mono ?_
  rintro e w' ⟨rfl, rfl⟩
  go_wp2_with fail
  refine (head_at w tl num).mono ?_
  rintro e w1 ⟨rfl, hk1⟩
  go_wp2_with (first
    | ((with_reducible refine aw_alloc (dst := some 11) Hi37.out Hz37.out ?_); intro w2 hb2 hk2 hz2; have Yz2 := hide hz2; clear hz2)
    | ((with_reducible refine aw_store (x := .tmp 11) (M := [.int .i64 1, .int .i64 tl, .int .i64 num, .slice none 0 0]) Try.agg37 rfl rfl rfl (by simp [Value.oneCell']) hb2 (by simp [Value.cells]) ?_); intro w3 hb3 hk3 hz3; have Yz3 := hide hz3; clear hz3; rw [put_whole _ _ (by simp [Value.cells])] at hb3; have hk13 : Kept (fun _ => False) w1 w3 := hk2.trans hk3 (fun i hi h => by omega))
    | fail)
  obtain ⟨c, hc⟩ : ∃ c, c = w1.heap.size := ⟨_, rfl⟩
  rw [← hc] at hb3 ⊢
  have HC1 : Hid (Blk w3 c [.int .i64 1, .int .i64 tl, .int .i64 num, .slice none 0 0] 37) := hide hb3
  have HK1 := hide (hk1.trans hk13 (fun _ _ h => h))
  clear hk1 hb2 hk2 hb3 hk3 hk13 hc Yz2 Yz3
  refine (HEi.out w3).mono ?_
  rintro e w' ⟨rfl, rfl⟩
  go_wp2_with (first
    | (with_reducible refine aw_loadG (t := 37) (M := [.int .i64 1, .int .i64 tl, .int .i64 num, .slice none 0 0]) rfl Try.agg37 rfl HC1.out (by simp [Value.cells]) (by simp [Value.cells]) ?_)
    | fail)
  refine (rcright_at w3 ⟨1, tl, num, ⟨none, 0, 0⟩, []⟩ (WsAt.nil w3)).mono ?_
  rintro e w4 ⟨rfl, hk4⟩
  have hrt : rightR (Rv.rc ⟨1, tl, num, ⟨none, 0, 0⟩, []⟩) = true := HRt.out
  rw [hrt]
  clear hrt
  have HK2 := hide (HK1.out.trans hk4 (fun _ _ h => h))
  have HC2 := hide (hk4.blk HC1.out (fun h => h))
  have c4 := (HL0.out.kept HK2.out).cell 4
  simp only [List.getElem?_cons_succ, List.getElem?_cons_zero] at c4
  rw [← Hen.out] at c4
  clear hk4
  go_wp2_with fail
  clear c4 h0'
  refine (HFr.out w4 HK2.out).mono ?_
  rintro e w5 ⟨rfl, hk5⟩
  have HK5 := hide (HK2.out.trans hk5 (fun _ _ h => h))
  have HC5 := hide (hk5.blk HC2.out (fun h => h))
  clear hk5
  go_wp2_with fail
  refine (HMt.out w5 HK5.out).mono ?_
  rintro e w6 ⟨rfl, hk6⟩
  have HK6 := hide (HK5.out.trans hk6 (fun _ _ h => h))
  have HC6 := hide (hk6.blk HC5.out (fun h => h))
  clear hk6
  go_wp2_with (first
    | (with_reducible refine aw_load (t := 37) (M := [.int .i64 1, .int .i64 tl, .int .i64 num, .slice none 0 0]) Try.agg37 rfl HC6.out (by simp [Value.cells]) (by simp [Value.cells]) ?_)
    | fail)
  refine (HTu.out w6 HK6.out).mono ?_
  rintro e w7 ⟨rfl, hst⟩
  have HSt := hide (DevStep.pre HK6.out hst)
  have HL7 := hide (hst.1.blk (HL0.out.kept HK6.out) HFb.out)
  clear hst
  by_cases h1 : ec = 0
  · subst h1
    have c4 := HL7.out.cell 4
    simp only [List.getElem?_cons_succ, List.getElem?_cons_zero] at c4
    have f4 : w7.frozen? ⟨b, 4, none⟩ = false := Blk.frozen HL7.out 4
    go_wp2
    go_ret
    refine ⟨rfl, ?_⟩
    exact RStep.setEnd Hbw.out HFb.out HL7.out HSt.out (q + l.sz + mh)
  · go_wp2
    go_ret
    refine ⟨rfl, ?_⟩
    first | exact RStep.ofDev Hbw.out HFb.out HL7.out HSt.out | (rw [if_neg h1]; exact RStep.ofDev Hbw.out HFb.out HL7.out HSt.out)
end Go.Proofs.Ytbbhchmdggfncaa


/-
  Segment, of package ring.
-/
namespace Go.Proofs.Ytbbhchmdggfncaa
open Go.RowKit Go.Shelf
open Go.Proofs.Ytbbhchmdggfncaa.D (r_load24)
set_option linter.unusedSimpArgs false
set_option linter.unusedVariables false
set_option maxRecDepth 100000

set_option maxHeartbeats 4000000 in
theorem rgseg_ok (w : World) (b n : Nat) (l : Lg) (s : D.DS) (F : Nat → Prop) (h : LogAt w b l) (hd : D.DevAt w l.db n s F) (hz : 1 ≤ l.sz ∧ l.sz ≤ 64) (hg : 1 ≤ l.sg ∧ l.sg ≤ 64) (hr : l.fr + l.sg * l.sz ≤ n)
    (i : Nat) (hi : i ≤ 4611686018427387904) (q : Nat) (hq : i % l.sg = q) (a : Nat) (ha : l.fr + q * l.sz = a) (ho : s.off = false) :
    Calls Try.prog 15 #[.pointer (some ⟨b, 0, none⟩), .int .i64 i] w fun e w' => ∃ g, e = .returned (.tuple #[.slice (some ⟨g, 0, none⟩) (l.sz * 64) (l.sz * 64), .int .i64 0]) ∧ Blk w' g (D.part s.view a l.sz) 5 ∧ Kept (fun _ => False) w w' ∧ w.heap.size ≤ g := by
  have hn2 : n ≤ 4096 := by obtain ⟨bs, wv, hd, _⟩ := hd; exact hd.n2
  obtain ⟨q3, hq3⟩ : ∃ q3, q * l.sz = q3 := ⟨_, rfl⟩
  have hql : q < l.sg := by rw [← hq]; exact Nat.mod_lt _ (by omega)
  have hfit : l.fr + q3 + l.sz ≤ n := by
    have h1 : (q + 1) * l.sz ≤ l.sg * l.sz := Nat.mul_le_mul_right _ hql
    rw [Nat.add_mul] at h1
    omega
  have HL := hide h
  have HD := hide hd
  have HG0 := hide hg
  have HZ0 := hide hz
  have HI : Hid (i ≤ 4611686018427387904) := hide hi
  have Hq := hide hq
  have Hq3 := hide hq3
  have Hq3b : Hid (q3 ≤ 1000000000) := hide (by omega)
  have Hfr : Hid (l.fr ≤ 4096) := hide (by omega)
  have HFit := hide hfit
  have HO := hide ho
  have Ha : Hid (l.fr + q3 = a) := hide (by rw [← ha, hq3])
  have HM := hide (made_at w b l h)
  clear h hd hz hg hr hi hq ha ho hn2 hq3 hql hfit
  go_enter Try.func15, Try.ntmps15
  go_wp2_with fail
  refine HM.out.mono ?_
  rintro e w1 ⟨rfl, rfl⟩
  have hi0 : ¬ ((i : Int) < 0) := by omega
  go_wp2_with fail
  refine hold_frame (p := fun fr => Code.wp Try.prog _ _ fr _) ?_
  intro fr hfr
  have e0 : fr.eval (.tmp 0) = .pointer (some ⟨b, 0, none⟩) := by rw [hfr.out]; rfl
  have e1 : fr.eval (.tmp 1) = .int .i64 (i : Nat) := by rw [hfr.out]; rfl
  have hts : fr.tmps.size = 38 := by rw [hfr.out]; rfl
  refine region_S0 99 Try.mixed ?_
  intro w0 hkw hheap
  have HLw := HL.out.kept hkw
  have HDw := HD.out.kept hkw (fun _ _ h => h)
  have hS0 : Kept (fun _ => False) w0 w0 := Kept.refl (fun _ => False) w0
  refine ⟨Kept (fun _ => False) w0, ?_⟩
  refine tkS 0 11 (v := .pointer (some ⟨b, 0, none⟩)) hS0 rfl rfl (by kernel_rfl) (by kernel_rfl) (by kernel_rfl) (by kernel_rfl) (wanted_none rfl) (fun _ _ _ h => h) (fun U hU => r_move (by simp [eval_put_ne, eval_put_eq, size_put, hts, e0])) ?_
  refine tkS 1 12 (v := .pointer (some ⟨b, 0, none⟩)) hS0 rfl rfl (by kernel_rfl) (by kernel_rfl) (by kernel_rfl) (by kernel_rfl) (wanted_none rfl) (fun _ _ _ h => h) (fun U hU => r_nilChk (by simp [eval_put_ne, eval_put_eq, size_put, hts])) ?_
  refine tkS 2 13 (v := .pointer (some ⟨b, 0, none⟩)) hS0 rfl rfl (by kernel_rfl) (by kernel_rfl) (by kernel_rfl) (by kernel_rfl) (wanted_none rfl) (fun _ _ _ h => h) (fun U hU => r_f66 (b := b) (k := 0) (by decide) (by simp [eval_put_ne, eval_put_eq, size_put, hts])) ?_
  refine tkS 3 14 (v := .pointer (some ⟨l.db, 0, none⟩)) hS0 rfl rfl (by kernel_rfl) (by kernel_rfl) (by kernel_rfl) (by kernel_rfl) (wanted_none rfl) (fun _ _ _ h => h) (fun U hU => r_load24 (by simp [eval_put_ne, eval_put_eq, size_put, hts]) ((hU.blk HLw (fun h => h)).cell 0)) ?_
  refine tkS 4 15 (v := .pointer (some ⟨b, 0, none⟩)) hS0 rfl rfl (by kernel_rfl) (by kernel_rfl) (by kernel_rfl) (by kernel_rfl) (wanted_none rfl) (fun _ _ _ h => h) (fun U hU => r_move (by simp [eval_put_ne, eval_put_eq, size_put, hts, e0])) ?_
  refine tkS 5 16 (v := .pointer (some ⟨b, 0, none⟩)) hS0 rfl rfl (by kernel_rfl) (by kernel_rfl) (by kernel_rfl) (by kernel_rfl) (wanted_none rfl) (fun _ _ _ h => h) (fun U hU => r_nilChk (by simp [eval_put_ne, eval_put_eq, size_put, hts])) ?_
  refine tkS 6 17 (v := .pointer (some ⟨b, 1, none⟩)) hS0 rfl rfl (by kernel_rfl) (by kernel_rfl) (by kernel_rfl) (by kernel_rfl) (wanted_none rfl) (fun _ _ _ h => h) (fun U hU => r_f66 (b := b) (k := 1) (by decide) (by simp [eval_put_ne, eval_put_eq, size_put, hts])) ?_
  refine tkS 7 18 (v := .int .i64 l.fr) hS0 rfl rfl (by kernel_rfl) (by kernel_rfl) (by kernel_rfl) (by kernel_rfl) (wanted_none rfl) (fun _ _ _ h => h) (fun U hU => r_ld3 (b := b) (o := 1) (by simp [eval_put_ne, eval_put_eq, size_put, hts]) ((HLw.kept ((hS0).trans hU (fun _ _ h => h))).cell 1)) ?_
  refine tkS 8 19 (v := .int .i64 (i : Nat)) hS0 rfl rfl (by kernel_rfl) (by kernel_rfl) (by kernel_rfl) (by kernel_rfl) (wanted_none rfl) (fun _ _ _ h => h) (fun U hU => r_move (by simp [eval_put_ne, eval_put_eq, size_put, hts, e1])) ?_
  refine tkS 9 20 (v := .pointer (some ⟨b, 0, none⟩)) hS0 rfl rfl (by kernel_rfl) (by kernel_rfl) (by kernel_rfl) (by kernel_rfl) (wanted_none rfl) (fun _ _ _ h => h) (fun U hU => r_move (by simp [eval_put_ne, eval_put_eq, size_put, hts, e0])) ?_
  refine tkS 10 21 (v := .pointer (some ⟨b, 0, none⟩)) hS0 rfl rfl (by kernel_rfl) (by kernel_rfl) (by kernel_rfl) (by kernel_rfl) (wanted_none rfl) (fun _ _ _ h => h) (fun U hU => r_nilChk (by simp [eval_put_ne, eval_put_eq, size_put, hts])) ?_
  refine tkS 11 22 (v := .pointer (some ⟨b, 2, none⟩)) hS0 rfl rfl (by kernel_rfl) (by kernel_rfl) (by kernel_rfl) (by kernel_rfl) (wanted_none rfl) (fun _ _ _ h => h) (fun U hU => r_f66 (b := b) (k := 2) (by decide) (by simp [eval_put_ne, eval_put_eq, size_put, hts])) ?_
  refine tkS 12 23 (v := .int .i64 l.sg) hS0 rfl rfl (by kernel_rfl) (by kernel_rfl) (by kernel_rfl) (by kernel_rfl) (wanted_none rfl) (fun _ _ _ h => h) (fun U hU => r_ld3 (b := b) (o := 2) (by simp [eval_put_ne, eval_put_eq, size_put, hts]) ((HLw.kept ((hS0).trans hU (fun _ _ h => h))).cell 2)) ?_
  refine tkS 13 24 (v := .int .i64 q) hS0 rfl rfl (by kernel_rfl) (by kernel_rfl) (by kernel_rfl) (by kernel_rfl) (wanted_none rfl) (fun _ _ _ h => h) (fun U hU => r_rgrem (i := i) (j := l.sg) (q := q) (by simp [eval_put_ne, eval_put_eq, size_put, hts]) (by simp [eval_put_ne, eval_put_eq, size_put, hts]) HG0.out HI.out Hq.out) ?_
  refine tkS 14 25 (v := .pointer (some ⟨b, 0, none⟩)) hS0 rfl rfl (by kernel_rfl) (by kernel_rfl) (by kernel_rfl) (by kernel_rfl) (wanted_none rfl) (fun _ _ _ h => h) (fun U hU => r_move (by simp [eval_put_ne, eval_put_eq, size_put, hts, e0])) ?_
  refine tkS 15 26 (v := .pointer (some ⟨b, 0, none⟩)) hS0 rfl rfl (by kernel_rfl) (by kernel_rfl) (by kernel_rfl) (by kernel_rfl) (wanted_none rfl) (fun _ _ _ h => h) (fun U hU => r_nilChk (by simp [eval_put_ne, eval_put_eq, size_put, hts])) ?_
  refine tkS 16 27 (v := .pointer (some ⟨b, 3, none⟩)) hS0 rfl rfl (by kernel_rfl) (by kernel_rfl) (by kernel_rfl) (by kernel_rfl) (wanted_none rfl) (fun _ _ _ h => h) (fun U hU => r_f66 (b := b) (k := 3) (by decide) (by simp [eval_put_ne, eval_put_eq, size_put, hts])) ?_
  refine tkS 17 28 (v := .int .i64 l.sz) hS0 rfl rfl (by kernel_rfl) (by kernel_rfl) (by kernel_rfl) (by kernel_rfl) (wanted_none rfl) (fun _ _ _ h => h) (fun U hU => r_ld3 (b := b) (o := 3) (by simp [eval_put_ne, eval_put_eq, size_put, hts]) ((HLw.kept ((hS0).trans hU (fun _ _ h => h))).cell 3)) ?_
  refine tkS 18 29 (v := .int .i64 q3) hS0 rfl rfl (by kernel_rfl) (by kernel_rfl) (by kernel_rfl) (by kernel_rfl) (wanted_none rfl) (fun _ _ _ h => h) (fun U hU => r_rgmul (i := q) (j := l.sz) (q := q3) (by simp [eval_put_ne, eval_put_eq, size_put, hts]) (by simp [eval_put_ne, eval_put_eq, size_put, hts]) Hq3b.out Hq3.out) ?_
  refine tkS 19 30 (v := .int .i64 ((l.fr + q3 : Nat) : Int)) hS0 rfl rfl (by kernel_rfl) (by kernel_rfl) (by kernel_rfl) (by kernel_rfl) (wanted_none rfl) (fun _ _ _ h => h) (fun U hU => r_rgadd (i := l.fr) (j := q3) (by simp [eval_put_ne, eval_put_eq, size_put, hts]) (by simp [eval_put_ne, eval_put_eq, size_put, hts]) (by have := Hfr.out; have := Hq3b.out; omega)) ?_
  refine tkS 20 31 (v := .pointer (some ⟨b, 0, none⟩)) hS0 rfl rfl (by kernel_rfl) (by kernel_rfl) (by kernel_rfl) (by kernel_rfl) (wanted_none rfl) (fun _ _ _ h => h) (fun U hU => r_move (by simp [eval_put_ne, eval_put_eq, size_put, hts, e0])) ?_
  refine tkS 21 32 (v := .pointer (some ⟨b, 0, none⟩)) hS0 rfl rfl (by kernel_rfl) (by kernel_rfl) (by kernel_rfl) (by kernel_rfl) (wanted_none rfl) (fun _ _ _ h => h) (fun U hU => r_nilChk (by simp [eval_put_ne, eval_put_eq, size_put, hts])) ?_
  refine tkS 22 33 (v := .pointer (some ⟨b, 3, none⟩)) hS0 rfl rfl (by kernel_rfl) (by kernel_rfl) (by kernel_rfl) (by kernel_rfl) (wanted_none rfl) (fun _ _ _ h => h) (fun U hU => r_f66 (b := b) (k := 3) (by decide) (by simp [eval_put_ne, eval_put_eq, size_put, hts])) ?_
  refine tkS 23 34 (v := .int .i64 l.sz) hS0 rfl rfl (by kernel_rfl) (by kernel_rfl) (by kernel_rfl) (by kernel_rfl) (wanted_none rfl) (fun _ _ _ h => h) (fun U hU => r_ld3 (b := b) (o := 3) (by simp [eval_put_ne, eval_put_eq, size_put, hts]) ((HLw.kept ((hS0).trans hU (fun _ _ h => h))).cell 3)) ?_
  refine oneCS 24 35 (by kernel_rfl) rfl rfl (wanted_none rfl) (r_call3 Try.func38 (by kernel_rfl) rfl rfl (by simp [eval_put_ne, eval_put_eq, size_put, hts]) (by simp [eval_put_ne, eval_put_eq, size_put, hts]) (by simp [eval_put_ne, eval_put_eq, size_put, hts])) (D.read_ok w0 l.db n s F HDw (l.fr + q3) l.sz HO.out HFit.out) ?_
  rintro e v1 ⟨g, rfl, hb1, k1, hg1⟩
  refine ⟨_, rfl, k1, ?_⟩
  refine tkS 25 36 (v := .slice (some ⟨g, 0, none⟩) (l.sz * 64) (l.sz * 64)) k1 rfl rfl (by kernel_rfl) (by kernel_rfl) (by kernel_rfl) (by kernel_rfl) (wanted_none rfl) (fun _ _ _ h => h) (fun U hU => r_rgext0 (u := .slice (some ⟨g, 0, none⟩) (l.sz * 64) (l.sz * 64)) (v := .int .i64 0) (by simp [eval_put_ne, eval_put_eq, size_put, hts])) ?_
  refine tkS 26 37 (v := .int .i64 0) k1 rfl rfl (by kernel_rfl) (by kernel_rfl) (by kernel_rfl) (by kernel_rfl) (wanted_none rfl) (fun _ _ _ h => h) (fun U hU => r_rgext1 (u := .slice (some ⟨g, 0, none⟩) (l.sz * 64) (l.sz * 64)) (v := .int .i64 0) (by simp [eval_put_ne, eval_put_eq, size_put, hts])) ?_
  refine tkS 27 4 (v := .slice (some ⟨g, 0, none⟩) (l.sz * 64) (l.sz * 64)) k1 rfl rfl (by kernel_rfl) (by kernel_rfl) (by kernel_rfl) (by kernel_rfl) (wanted_none rfl) (fun _ _ _ h => h) (fun U hU => r_assign (by simp [eval_put_ne, eval_put_eq, size_put, hts])) ?_
  refine tkS 28 5 (v := .int .i64 0) k1 rfl rfl (by kernel_rfl) (by kernel_rfl) (by kernel_rfl) (by kernel_rfl) (wanted_none rfl) (fun _ _ _ h => h) (fun U hU => r_assign (by simp [eval_put_ne, eval_put_eq, size_put, hts])) ?_
  refine doneS (by kernel_rfl) ?_
  rw [hfr.out]
  clear hfr e0 e1 hts
  simp only [put_lit, put_none, List.set_cons_succ, List.set_cons_zero]

  have HK := hide (hkw.trans k1 (fun _ _ h => h))
  have HB1 := hide hb1
  have HG1 : Hid (w.heap.size ≤ g) := hide (by have := hkw.size; omega)
  clear hS0 k1 hb1 hg1 hkw hheap HLw HDw hi0
  go_wp2
  go_ret2
  exact ⟨g, rfl, by rw [← Ha.out]; exact HB1.out, HK.out, HG1.out⟩
end Go.Proofs.Ytbbhchmdggfncaa
