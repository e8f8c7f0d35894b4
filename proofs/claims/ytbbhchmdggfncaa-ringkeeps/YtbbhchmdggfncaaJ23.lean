/-
  turn, of package ring: a switch at the end, and the next segment's head.
-/
import Derived.Test.YtbbhchmdggfncaaJ22
namespace Go.Proofs.Ytbbhchmdggfncaa
open Go.RowKit Go.Shelf
set_option linter.unusedSimpArgs false
set_option linter.unusedVariables false
set_option maxRecDepth 100000

section
variable {ρ : Operand → Value} {w : World} {dst : Option Tmp} {ty : TypeId} {pos : String} {aft : Array Edge} {gd : Option (Nat × Bool)} {x y z : Operand}
theorem r_call4 {y4 : Operand} {f : FuncId} {u v t s : Value} {t1 t2 t3 t4 : TypeId} {fn : Func} {c : Code} (hf : Try.prog.funcs[f]? = some fn) (hn : (fn.name == "runtime.NumGoroutine") = false) (hb : fn.body = some c) (hfv : ρ (.func f) = .func (.func f) #[] #[]) (hx : ρ x = u) (hy : ρ y = v) (hz : ρ z = t) (h4 : ρ y4 = s) :
    (execOp ρ ⟨dst, .call { callee := .value (.func f), args := #[x, y, z, y4], argTypes := #[t1, t2, t3, t4] }, ty, pos, aft, gd⟩).run Try.prog w = .ok (.enter f #[u, v, t, s]) w := by
  have h := enters_of hf hn hb #[u, v, t, s] w
  simp [execOp, resolve, hfv, hx, hy, hz, h4, Deferred.ofValue, invoke, h]
theorem r_rgext0 {u v : Value} (hx : ρ x = .tuple #[u, v]) : (execOp ρ ⟨dst, .extract x 0, ty, pos, aft, gd⟩).run Try.prog w = .ok (.value u) w := by
  go_simp
theorem r_rgext1 {u v : Value} (hx : ρ x = .tuple #[u, v]) : (execOp ρ ⟨dst, .extract x 1, ty, pos, aft, gd⟩).run Try.prog w = .ok (.value v) w := by
  go_simp
end
theorem DevStep.trans {w w1 w2 : World} {b n : Nat} {s2 : D.DS} {F F' : Nat → Prop} (h1 : Kept F w w1) (hF : ∀ k, F' k → F k ∨ w.heap.size ≤ k) (h2 : D.DevStep w1 w2 b n s2 F') : D.DevStep w w2 b n s2 F := by
  obtain ⟨k2, F2, d2, f2⟩ := h2
  refine ⟨h1.trans k2 (fun i hi h => (hF i h).elim id (fun h => by omega)), F2, d2, fun k hk => ?_⟩
  rcases f2 k hk with h | h
  · exact hF k h
  · exact .inr (Nat.le_trans h1.size h)
/-- The switch, and the bytes it takes. -/
def swR : Rc := ⟨2, 0, 0, []⟩
theorem swB : putRN swR = [2] := by rfl
theorem wDev_ws (s : D.DS) (a m : Nat) (A : List Nat) : (wDev s a m A).ws.length ≤ s.ws.length + m := by
  unfold wDev
  split
  · omega
  · split
    · unfold D.DS.spent; split <;> simp
    · simp only [D.DS.written, List.length_append, D.secs, List.length_map, List.length_range]
      omega
theorem wDev_calls (s : D.DS) (a m : Nat) (A : List Nat) : (wDev s a m A).calls ≤ s.calls + 1 := by
  have h : s.spent.calls ≤ s.calls + 1 := by unfold D.DS.spent; split <;> simp
  unfold wDev
  split
  · omega
  · split
    · exact h
    · exact h
/-- What turn answers, and what it makes of the device. -/
def tErr (s : D.DS) (a : Nat) (A : List Nat) : Int := if wErr s = 0 then wErr (wDev s a 1 A) else wErr s
def tDev (s : D.DS) (a : Nat) (A : List Nat) (a2 m : Nat) (A2 : List Nat) : D.DS := if wErr s = 0 then wDev (wDev s a 1 A) a2 m A2 else wDev s a 1 A

set_option maxHeartbeats 8000000 in
theorem rgturn_at (w : World) (b n : Nat) (l : Lg) (s : D.DS) (F : Nat → Prop) (h : LogAt w b l) (hd : D.DevAt w l.db n s F) (hFb : ¬ F b) (hz : 1 ≤ l.sz ∧ l.sz ≤ 64) (hg : 1 ≤ l.sg ∧ l.sg ≤ 64) (hr : l.fr + l.sg * l.sz ≤ n)
    (hp : l.en ≤ 4611686018427300000) (ep : Int) (hep : 0 ≤ ep ∧ ep ≤ 4294967295) (x : Rv) (hx : ∀ w', Kept F w w' → RcAt w' x) (Bh : List Nat) (hB : putRN x.rc = Bh) (hl : Bh.length ≤ 10000) (h0 : 0 < Bh.length) (mh : Nat) (hm : sectN Bh.length = mh)
    (hfit : mh ≤ l.sz) (a : Nat) (ha : l.fr + l.en / l.sz % l.sg * l.sz + l.en % l.sz = a) (A : List Nat) (hA : (sectorsOf l.en (fun _ => ep) [2]).flatten = A)
    (q : Nat) (hq : q = l.en - l.en % l.sz) (a2 : Nat) (ha2 : l.fr + (q + l.sz) / l.sz % l.sg * l.sz + (q + l.sz) % l.sz = a2) (A2 : List Nat) (hA2 : (sectorsOf ((q + l.sz : Nat) : Int) (fun _ => ep) Bh).flatten = A2)
    (hc : s.calls < 4611686018427387000) (hlen : s.ws.length + 1 + mh < 1000000000) (ec : Int) (hec : tErr s a A = ec) :
    Calls Try.prog 33 #[.pointer (some ⟨b, 0, none⟩), .int .i64 ep, x.agg] w fun e w' => e = .returned (.tuple #[.int .i64 (if ec = 0 then ((q + l.sz + mh : Nat) : Int) else 0), .int .i64 ec]) ∧ D.DevStep w w' l.db n (tDev s a A a2 mh A2) F := by
  obtain ⟨e1, he1⟩ : ∃ e, wErr s = e := ⟨_, rfl⟩
  obtain ⟨s1, hs1⟩ : ∃ t, wDev s a 1 A = t := ⟨_, rfl⟩
  obtain ⟨e2, he2⟩ : ∃ e, wErr s1 = e := ⟨_, rfl⟩
  have hec2 : (if e1 = 0 then e2 else e1) = ec := by rw [← hec]; unfold tErr; rw [he1, hs1, he2]
  have hdev : (if e1 = 0 then wDev s1 a2 mh A2 else s1) = tDev s a A a2 mh A2 := by unfold tDev; rw [he1, hs1]
  have hws := wDev_ws s a 1 A
  have hcl := wDev_calls s a 1 A
  rw [hs1] at hws hcl
  have hfit1 : l.en % l.sz + 1 ≤ l.sz := Nat.mod_lt _ (by omega)
  have hq2 : q ≤ l.en := by omega
  have hqm : q % l.sz = 0 := by
    rw [hq]
    have := Nat.div_add_mod l.en l.sz
    have e : l.en - l.en % l.sz = l.sz * (l.en / l.sz) := by omega
    rw [e]
    exact Nat.mul_mod_right _ _
  have hfit2 : (q + l.sz) % l.sz + mh ≤ l.sz := by rw [Nat.add_mod_right, hqm]; omega
  have HPut := hide (fun (w' : World) (hk : Kept (fun _ => False) w w') => rgput_at w' b n l s F (h.kept hk) (hd.kept hk (fun _ _ h => h)) hFb hz hg hr l.en (by omega) ep hep ⟨2, 0, 0, ⟨none, 0, 0⟩, []⟩ (fun w2 _ => WsAt.nil w2) [2] swB (by simp) (by simp) 1 (by rfl) hfit1 a ha A hA (by omega) (by omega) e1 he1)
  have hbw : b < w.heap.size := (Array.getElem?_eq_some_iff.1 h).1
  rw [hs1] at HPut
  simp only [Rv.agg] at HPut
  have HL0 := hide h
  have HD0 := hide hd
  have HX0 := hide hx
  have HFb := hide hFb
  have HFlt := hide hd.lt
  have HZ0 := hide hz
  have HG0 := hide hg
  have HR := hide hr
  have HEn : Hid (l.en < 4611686018427387904) := hide (by omega)
  have HEp := hide hep
  have HBh := hide hB
  have HBhl := hide hl
  have HBh0 := hide h0
  have HMh := hide hm
  have HFit := hide hfit2
  have Hq := hide hq
  have Hq2 : Hid (q ≤ 4611686018427300000) := hide (by omega)
  have Ha2 := hide ha2
  have HA2 := hide hA2
  have HC2 : Hid (s1.calls < 4611686018427387904) := hide (by omega)
  have HW2 : Hid (s1.ws.length + mh < 1000000000) := hide (by omega)
  have He2 := hide he2
  have HEc := hide hec2
  have HDev := hide hdev
  have Hbw := hide hbw
  clear h hd hx hFb hz hg hr hp hep hB hl h0 hm hfit ha hA hq ha2 hA2 hc hlen hec he1 hs1 he2 hec2 hdev hws hcl hfit1 hq2 hqm hfit2 hbw
  obtain ⟨xk, xt, xm, ⟨xa, xn, xc⟩, xw⟩ := x
  obtain ⟨i37, hi37, hz37, hs37, hb37⟩ := info_parts Try.info37
  have Hi37 := hide hi37
  have Hz37 := hide hz37
  clear hi37 hz37 hs37 hb37
  go_enter Try.func33, Try.ntmps33
  go_wp2_with (first
    | ((with_reducible refine aw_box (t := 37) (v := rAgg xk xt xm ⟨xa, xn, xc⟩) rfl ?_); intro w1 hb1 hk1 hz1; clear hz1; have c4 := (HL0.out.kept hk1).cell 4; simp only [List.getElem?_cons_succ, List.getElem?_cons_zero] at c4)
    | fail)
  refine (HPut.out w1 hk1).mono ?_
  rintro e w2 ⟨rfl, hst⟩
  obtain ⟨c, hc⟩ : ∃ c, c = w.heap.size := ⟨_, rfl⟩
  rw [← hc] at hb1 ⊢
  have hst0 := DevStep.pre hk1 hst
  have HC0 : Hid (Blk w2 c [.int .i64 xk, .int .i64 xt, .int .i64 xm, .slice xa xn xc] 37) := hide (hst.1.blk hb1 (fun h => by have := HFlt.out c h; omega))
  have HCs : Hid (c < w1.heap.size) := hide (Array.getElem?_eq_some_iff.1 hb1).1
  obtain ⟨hkF, F', hd1, hF'⟩ := hst
  have HFb1 : Hid (¬ F' b) := hide (fun h => by
    rcases hF' b h with h | h
    · exact HFb.out h
    · have := Hbw.out; have := hk1.size; omega)
  have HFc1 : Hid (¬ F' c) := hide (fun h => by
    rcases hF' c h with h | h
    · have := HFlt.out c h; omega
    · have := HCs.out; omega)
  have hkw2 : Kept F w w2 := (hk1.mono (fun _ _ h => h.elim)).trans hkF (fun _ _ h => h)
  have hF2 : ∀ k, F' k → F k ∨ w.heap.size ≤ k := fun k h => (hF' k h).imp id (fun h => Nat.le_trans hk1.size h)
  have HL1 : Hid (LogAt w2 b l) := hide (hkw2.blk HL0.out HFb.out)
  have HX1 : Hid (∀ w', Kept F' w2 w' → RcAt w' ⟨xk, xt, xm, ⟨xa, xn, xc⟩, xw⟩) := hide (fun w' hk => HX0.out w' (hkw2.trans hk (fun i hi h => (hF2 i h).elim id (fun h => by omega))))
  have HD1 := hide hd1
  have HC1 := HC0
  have HKw2 := hide hkw2
  have HF2 := hide hF2
  have HSt0 := hide hst0
  clear hb1 hk1 hst0 hkF hd1 hF' hkw2 hF2 HPut c4 hc
  by_cases h1 : e1 = 0
  · subst h1
    have hecq : e2 = ec := HEc.out
    subst hecq
    go_wp2_with fail
    refine hold_frame (p := fun fr => Code.wp Try.prog _ _ fr _) ?_
    intro fr hfr
    have e0 : fr.eval (.tmp 0) = .pointer (some ⟨b, 0, none⟩) := by rw [hfr.out]; rfl
    have e1 : fr.eval (.tmp 1) = .int .i64 ep := by rw [hfr.out]; rfl
    have e5 : fr.eval (.tmp 5) = .pointer (some ⟨c, 0, none⟩) := by rw [hfr.out]; rfl
    have hts : fr.tmps.size = 41 := by rw [hfr.out]; rfl
    refine region_S0 99 Try.mixed ?_
    intro w0 hkw hheap
    have HDw := HD1.out.kept hkw (fun _ _ h => h)
    have HLw := HL1.out.kept hkw
    have HCw := hkw.blk HC1.out (fun h => h)
    have hS0 : Kept F' w0 w0 := Kept.refl F' w0
    refine ⟨Kept F' w0, ?_⟩
    refine tkS 0 24 (v := .pointer (some ⟨b, 0, none⟩)) hS0 rfl rfl (by kernel_rfl) (by kernel_rfl) (by kernel_rfl) (by kernel_rfl) (wanted_none rfl) (fun _ _ _ h => h) (fun U hU => r_move (by simp [eval_put_ne, eval_put_eq, size_put, hts, e0])) ?_
    refine tkS 1 25 (v := .pointer (some ⟨b, 0, none⟩)) hS0 rfl rfl (by kernel_rfl) (by kernel_rfl) (by kernel_rfl) (by kernel_rfl) (wanted_none rfl) (fun _ _ _ h => h) (fun U hU => r_move (by simp [eval_put_ne, eval_put_eq, size_put, hts, e0])) ?_
    refine tkS 2 26 (v := .pointer (some ⟨b, 0, none⟩)) hS0 rfl rfl (by kernel_rfl) (by kernel_rfl) (by kernel_rfl) (by kernel_rfl) (wanted_none rfl) (fun _ _ _ h => h) (fun U hU => r_move (by simp [eval_put_ne, eval_put_eq, size_put, hts, e0])) ?_
    refine tkS 3 27 (v := .pointer (some ⟨b, 0, none⟩)) hS0 rfl rfl (by kernel_rfl) (by kernel_rfl) (by kernel_rfl) (by kernel_rfl) (wanted_none rfl) (fun _ _ _ h => h) (fun U hU => r_nilChk (by simp [eval_put_ne, eval_put_eq, size_put, hts])) ?_
    refine tkS 4 28 (v := .pointer (some ⟨b, 4, none⟩)) hS0 rfl rfl (by kernel_rfl) (by kernel_rfl) (by kernel_rfl) (by kernel_rfl) (wanted_none rfl) (fun _ _ _ h => h) (fun U hU => r_f66 (b := b) (k := 4) (by decide) (by simp [eval_put_ne, eval_put_eq, size_put, hts])) ?_
    refine tkS 5 29 (v := .int .i64 l.en) hS0 rfl rfl (by kernel_rfl) (by kernel_rfl) (by kernel_rfl) (by kernel_rfl) (wanted_none rfl) (fun _ _ _ h => h) (fun U hU => r_ld3 (b := b) (o := 4) (by simp [eval_put_ne, eval_put_eq, size_put, hts]) ((hU.blk HLw HFb1.out).cell 4)) ?_
    refine tkS 7 31 (v := .pointer (some ⟨b, 0, none⟩)) hS0 rfl rfl (by kernel_rfl) (by kernel_rfl) (by kernel_rfl) (by kernel_rfl) (wanted_none rfl) (fun _ _ _ h => h) (fun U hU => r_move (by simp [eval_put_ne, eval_put_eq, size_put, hts, e0])) ?_
    refine tkS 8 32 (v := .pointer (some ⟨b, 0, none⟩)) hS0 rfl rfl (by kernel_rfl) (by kernel_rfl) (by kernel_rfl) (by kernel_rfl) (wanted_none rfl) (fun _ _ _ h => h) (fun U hU => r_nilChk (by simp [eval_put_ne, eval_put_eq, size_put, hts])) ?_
    refine tkS 9 33 (v := .pointer (some ⟨b, 3, none⟩)) hS0 rfl rfl (by kernel_rfl) (by kernel_rfl) (by kernel_rfl) (by kernel_rfl) (wanted_none rfl) (fun _ _ _ h => h) (fun U hU => r_f66 (b := b) (k := 3) (by decide) (by simp [eval_put_ne, eval_put_eq, size_put, hts])) ?_
    refine tkS 10 34 (v := .int .i64 l.sz) hS0 rfl rfl (by kernel_rfl) (by kernel_rfl) (by kernel_rfl) (by kernel_rfl) (wanted_none rfl) (fun _ _ _ h => h) (fun U hU => r_ld3 (b := b) (o := 3) (by simp [eval_put_ne, eval_put_eq, size_put, hts]) ((hU.blk HLw HFb1.out).cell 3)) ?_
    refine tkS 12 36 (v := .int .i64 ep) hS0 rfl rfl (by kernel_rfl) (by kernel_rfl) (by kernel_rfl) (by kernel_rfl) (wanted_none rfl) (fun _ _ _ h => h) (fun U hU => r_move (by simp [eval_put_ne, eval_put_eq, size_put, hts, e1])) ?_
    refine tkS 13 37 (v := rAgg xk xt xm ⟨xa, xn, xc⟩) hS0 rfl rfl (by kernel_rfl) (by kernel_rfl) (by kernel_rfl) (by kernel_rfl) (wanted_none rfl) (fun _ _ _ h => h) (fun U hU => r_rgrec (b := c) (by simp [eval_put_ne, eval_put_eq, size_put, hts, e5]) (hU.blk HCw HFc1.out)) ?_
    refine oneCS 6 30 (by kernel_rfl) rfl rfl (wanted_none rfl) (r_call2 Try.func37 (by kernel_rfl) rfl rfl (by simp [eval_put_ne, eval_put_eq, size_put, hts]) (by simp [eval_put_ne, eval_put_eq, size_put, hts])) (beginning_at w0 b l HLw l.en HEn.out HZ0.out q Hq.out) ?_
    rintro e v1 ⟨rfl, rfl⟩
    refine ⟨_, rfl, hS0, ?_⟩
    refine tkS 11 35 (v := .int .i64 ((q + l.sz : Nat) : Int)) hS0 rfl rfl (by kernel_rfl) (by kernel_rfl) (by kernel_rfl) (by kernel_rfl) (wanted_none rfl) (fun _ _ _ h => h) (fun U hU => r_rgadd (i := q) (j := l.sz) (by simp [eval_put_ne, eval_put_eq, size_put, hts]) (by simp [eval_put_ne, eval_put_eq, size_put, hts]) (by have := Hq2.out; have := HZ0.out; omega)) ?_
    refine oneCS 14 38 (by kernel_rfl) rfl rfl (wanted_none rfl) (r_call4 Try.func26 (by kernel_rfl) rfl rfl (by simp [eval_put_ne, eval_put_eq, size_put, hts]) (by simp [eval_put_ne, eval_put_eq, size_put, hts]) (by simp [eval_put_ne, eval_put_eq, size_put, hts]) (by simp [eval_put_ne, eval_put_eq, size_put, hts])) (rgput_at w0 b n l s1 F' HLw HDw HFb1.out HZ0.out HG0.out HR.out (q + l.sz) (by have := Hq2.out; have := HZ0.out; omega) ep HEp.out ⟨xk, xt, xm, ⟨xa, xn, xc⟩, xw⟩ (fun w' hk => HX1.out w' ((hkw.mono (fun _ _ h => h.elim)).trans hk (fun _ _ h => h))) Bh HBh.out HBhl.out HBh0.out mh HMh.out HFit.out a2 Ha2.out A2 HA2.out HC2.out HW2.out e2 He2.out) ?_
    rintro e v2 ⟨rfl, hst⟩
    refine ⟨_, rfl, hst.1, ?_⟩
    refine tkS 15 39 (v := .int .i64 (if e2 = 0 then ((q + l.sz + mh : Nat) : Int) else 0)) hst.1 rfl rfl (by kernel_rfl) (by kernel_rfl) (by kernel_rfl) (by kernel_rfl) (wanted_none rfl) (fun _ _ _ h => h) (fun U hU => r_rgext0 (u := .int .i64 (if e2 = 0 then ((q + l.sz + mh : Nat) : Int) else 0)) (v := .int .i64 e2) (by simp [eval_put_ne, eval_put_eq, size_put, hts])) ?_
    refine tkS 16 40 (v := .int .i64 e2) hst.1 rfl rfl (by kernel_rfl) (by kernel_rfl) (by kernel_rfl) (by kernel_rfl) (wanted_none rfl) (fun _ _ _ h => h) (fun U hU => r_rgext1 (u := .int .i64 (if e2 = 0 then ((q + l.sz + mh : Nat) : Int) else 0)) (v := .int .i64 e2) (by simp [eval_put_ne, eval_put_eq, size_put, hts])) ?_
    refine tkS 17 6 (v := .int .i64 (if e2 = 0 then ((q + l.sz + mh : Nat) : Int) else 0)) hst.1 rfl rfl (by kernel_rfl) (by kernel_rfl) (by kernel_rfl) (by kernel_rfl) (wanted_none rfl) (fun _ _ _ h => h) (fun U hU => r_assign (by simp [eval_put_ne, eval_put_eq, size_put, hts])) ?_
    refine tkS 18 7 (v := .int .i64 e2) hst.1 rfl rfl (by kernel_rfl) (by kernel_rfl) (by kernel_rfl) (by kernel_rfl) (wanted_none rfl) (fun _ _ _ h => h) (fun U hU => r_assign (by simp [eval_put_ne, eval_put_eq, size_put, hts])) ?_
    refine doneS (by kernel_rfl) ?_
    rw [hfr.out]
    clear hfr e0 e1 e5 hts
    simp only [put_lit, put_none, List.set_cons_succ, List.set_cons_zero]
    have HSt := hide (DevStep.pre hkw hst)
    clear hS0 hst hkw hheap HLw HCw HDw

    go_wp2 <;> (
      go_ret2
      refine ⟨by first | rfl | simp, ?_⟩
      rw [← HDev.out]
      exact DevStep.trans HKw2.out HF2.out HSt.out)
  · have hecq : e1 = ec := by have := HEc.out; rw [if_neg h1] at this; exact this
    go_wp2
    go_ret2
    subst hecq
    refine ⟨by simp [h1], ?_⟩
    rw [← HDev.out, if_neg h1]
    exact HSt0.out
end Go.Proofs.Ytbbhchmdggfncaa


/-
  Room, of package ring.
-/
namespace Go.Proofs.Ytbbhchmdggfncaa
open Go.RowKit Go.Shelf
set_option linter.unusedSimpArgs false
set_option linter.unusedVariables false
set_option maxRecDepth 100000

section
variable {ρ : Operand → Value} {w : World} {dst : Option Tmp} {ty : TypeId} {pos : String} {aft : Array Edge} {gd : Option (Nat × Bool)} {x y z : Operand}
theorem r_rgsub2 {i : Nat} (hx : ρ x = .int .i64 i) (hy : ρ y = .int .i64 2) (h : 1 ≤ i ∧ i ≤ 64) : (execOp ρ ⟨dst, .binOp .sub 3 x y 3, ty, pos, aft, gd⟩).run Try.prog w = .ok (.value (.int .i64 ((i : Int) - 2))) w := by
  have hw : IntKind.i64.wrap ((i : Int) - 2) = (i : Int) - 2 := by rw [IntKind.wrap_i64]; omega
  go_simp
theorem r_rggtr {i j : Int} {r : Bool} (hx : ρ x = .int .i64 i) (hy : ρ y = .int .i64 j) (h : decide (j < i) = r) : (execOp ρ ⟨dst, .binOp .gtr 3 x y 3, ty, pos, aft, gd⟩).run Try.prog w = .ok (.value (.bool r)) w := by
  subst h
  go_simp
end
section
variable {P : Program} {ops : Array Oper} {Q : Exit → Act → World → Prop} {a : Act} {w : World} {rest : List Oper} {dst : Option Tmp} {ty : TypeId} {pos : String} {aft : Array Edge}
/-- A load of a whole struct, where its guard wants it. -/
theorem aw_loadG {g : Nat × Bool} {t : TypeId} {x : Operand} {b off n : Nat} {L M : List Value} {e : TypeId} (hg : Region.wanted ⟨dst, .load t x, ty, pos, aft, some g⟩ (yielded ops a.tmps) = true) (ht : aggSize P t n) (hx : a.eval x = .pointer (some ⟨b, off, none⟩)) (hb : Blk w b L e) (hl : off + n ≤ L.length) (hM : (L.drop off).take n = M)
    (h : wpList P ops Q rest (a.put dst (.agg M.toArray)) w) : wpList P ops Q (⟨dst, .load t x, ty, pos, aft, some g⟩ :: rest) a w := by
  subst hM
  exact wpList_step fun K hK => by rw [if_pos hg]; unfold Oper.wp; rw [run_load_agg ht hx hb hl]; exact hK _ _ h
end
/-- What Room tells of a record of n sectors. -/
def roomE (l : Lg) (r : Rc) (n : Nat) (low : Int) : Int :=
  if r.kind ≠ 3 ∨ rightR r = false ∨ l.en = 0 then 2
  else if (l.sz : Int) - 2 < n then 42
  else if l.en % l.sz + n < l.sz ∨ ((l.en / l.sz : Nat) : Int) + 1 - l.sg < low then 0 else 30

set_option maxHeartbeats 8000000 in
theorem rgroom_at (w : World) (b : Nat) (l : Lg) (h : LogAt w b l) (x : Rv) (hx : RcAt w x) (low : Int) (hz : 1 ≤ l.sz ∧ l.sz ≤ 64) (hg : l.sg ≤ 64) (he : l.en ≤ 4611686018427387904) (B : List Nat) (hB : putRN x.rc = B) (hl : B.length ≤ 10000) (n : Nat) (hn : (if B.length = 0 then 0 else sectN B.length) = n) (hn2 : n ≤ 10000) (ec : Int) (hec : roomE l x.rc n low = ec) :
    Calls Try.prog 31 #[.pointer (some ⟨b, 0, none⟩), x.agg, .int .i64 low] w fun e w' => e = .returned (.int .i64 ec) ∧ Kept (fun _ => False) w w' := by
  have HL0 := hide h
  have HX0 := hide hx
  have HZ0 := hide hz
  have HG := hide hg
  have HEn := hide he
  have HB := hide hB
  have HBl := hide hl
  have Hn := hide hn
  have Hn2 := hide hn2
  have HEc := hide hec
  clear h hx hz hg he hB hl hn hn2 hec
  obtain ⟨xk, xt, xm, ⟨xa, xn, xc⟩, xw⟩ := x
  obtain ⟨rr, hrr⟩ : ∃ r, rightR (Rv.rc ⟨xk, xt, xm, ⟨xa, xn, xc⟩, xw⟩) = r := ⟨_, rfl⟩
  have HRr := hide hrr
  obtain ⟨en, hen⟩ : ∃ e, e = l.en := ⟨_, rfl⟩
  have Hen := hide hen
  clear hrr
  go_enter Try.func31, Try.ntmps31
  go_wp2_with (first
    | ((with_reducible refine aw_box (t := 37) (v := rAgg xk xt xm ⟨xa, xn, xc⟩) rfl ?_); intro w1 hb1 hk1 hz1; clear hz1)
    | fail)
  obtain ⟨c, hc⟩ : ∃ c, c = w.heap.size := ⟨_, rfl⟩
  rw [← hc] at hb1 ⊢
  have HC1 : Hid (Blk w1 c [.int .i64 xk, .int .i64 xt, .int .i64 xm, .slice xa xn xc] 37) := hide hb1
  have HL1 := hide (HL0.out.kept hk1)
  have HX1 := hide (HX0.out.kept hk1)
  have HK1 := hide hk1
  clear hb1 hk1 hc
  refine (made_at w1 b l HL1.out).mono ?_
  rintro e w1' ⟨rfl, rfl⟩
  have ck := HC1.out.cell 0
  simp only [List.getElem?_cons_zero] at ck
  clear hen
  by_cases h3 : xk = 3
  · subst h3
    clear ck
    have ck := HC1.out.cell 0
    simp only [List.getElem?_cons_zero] at ck
    go_wp2_with (first
      | (with_reducible refine aw_loadG (t := 37) (M := [.int .i64 3, .int .i64 xt, .int .i64 xm, .slice xa xn xc]) rfl Try.agg37 rfl HC1.out (by simp [Value.cells]) (by simp [Value.cells]) ?_)
      | fail)
    refine (rcright_at w1 ⟨3, xt, xm, ⟨xa, xn, xc⟩, xw⟩ HX1.out).mono ?_
    rintro e w2 ⟨rfl, hk2⟩
    rw [HRr.out]
    have HL2 := hide (HL1.out.kept hk2)
    have HX2 := hide (HX1.out.kept hk2)
    have HC2 := hide (hk2.blk HC1.out (fun h => h))
    have HK2 := hide (HK1.out.trans hk2 (fun _ _ h => h))
    have ce := HL2.out.cell 4
    simp only [List.getElem?_cons_succ, List.getElem?_cons_zero] at ce
    rw [← Hen.out] at ce
    clear hk2 ck
    cases rr with
    | false =>
      have hec : (2 : Int) = ec := by rw [← HEc.out]; unfold roomE; rw [if_pos (.inr (.inl HRr.out))]
      subst hec
      clear ce
      go_wp2
      go_ret
      exact ⟨rfl, HK2.out⟩
    | true =>
      by_cases h0 : en = 0
      · have hec : (2 : Int) = ec := by rw [← HEc.out]; unfold roomE; rw [if_pos (.inr (.inr (by rw [← Hen.out]; exact h0)))]
        subst hec
        subst h0
        go_wp2
        go_ret
        exact ⟨rfl, HK2.out⟩
      · have h0' : ¬ (en : Int) = 0 := by omega
        have hno : ¬ ((Rv.rc ⟨3, xt, xm, ⟨xa, xn, xc⟩, xw⟩).kind ≠ 3 ∨ rightR (Rv.rc ⟨3, xt, xm, ⟨xa, xn, xc⟩, xw⟩) = false ∨ l.en = 0) := by
          rw [HRr.out, ← Hen.out]; simp [Rv.rc, h0]
        have HEc2 := HEc.out
        unfold roomE at HEc2
        rw [if_neg hno] at HEc2
        have HE3 := hide HEc2
        clear HEc2 hno
        obtain ⟨sb, hsb⟩ : ∃ r, decide ((l.sz : Int) - 2 < n) = r := ⟨_, rfl⟩
        have HSb := hide hsb
        clear hsb
        go_wp2_with fail
        refine hold_frame (p := fun fr => Code.wp Try.prog _ _ fr _) ?_
        intro fr hfr
        have e0 : fr.eval (.tmp 0) = .pointer (some ⟨b, 0, none⟩) := by rw [hfr.out]; rfl
        have e4 : fr.eval (.tmp 4) = .pointer (some ⟨c, 0, none⟩) := by rw [hfr.out]; rfl
        have hts : fr.tmps.size = 41 := by rw [hfr.out]; rfl
        refine region_S0 99 Try.mixed ?_
        intro w0 hkw hheap
        have HLw := HL2.out.kept hkw
        have HCw := hkw.blk HC2.out (fun h => h)
        have HXw := HX2.out.kept hkw
        have hS0 : Kept (fun _ => False) w0 w0 := Kept.refl (fun _ => False) w0
        refine ⟨Kept (fun _ => False) w0, ?_⟩
        refine tkS 0 25 (v := rAgg 3 xt xm ⟨xa, xn, xc⟩) hS0 rfl rfl (by kernel_rfl) (by kernel_rfl) (by kernel_rfl) (by kernel_rfl) (wanted_none rfl) (fun _ _ _ h => h) (fun U hU => r_rgrec (b := c) (by simp [eval_put_ne, eval_put_eq, size_put, hts, e4]) (((hS0).trans hU (fun _ _ h => h)).blk HCw (fun h => h))) ?_
        refine tkS 2 27 (v := .pointer (some ⟨b, 0, none⟩)) hS0 rfl rfl (by kernel_rfl) (by kernel_rfl) (by kernel_rfl) (by kernel_rfl) (wanted_none rfl) (fun _ _ _ h => h) (fun U hU => r_move (by simp [eval_put_ne, eval_put_eq, size_put, hts, e0])) ?_
        refine tkS 3 28 (v := .pointer (some ⟨b, 0, none⟩)) hS0 rfl rfl (by kernel_rfl) (by kernel_rfl) (by kernel_rfl) (by kernel_rfl) (wanted_none rfl) (fun _ _ _ h => h) (fun U hU => r_nilChk (by simp [eval_put_ne, eval_put_eq, size_put, hts])) ?_
        refine tkS 4 29 (v := .pointer (some ⟨b, 3, none⟩)) hS0 rfl rfl (by kernel_rfl) (by kernel_rfl) (by kernel_rfl) (by kernel_rfl) (wanted_none rfl) (fun _ _ _ h => h) (fun U hU => r_f66 (b := b) (k := 3) (by decide) (by simp [eval_put_ne, eval_put_eq, size_put, hts])) ?_
        refine tkS 5 30 (v := .int .i64 l.sz) hS0 rfl rfl (by kernel_rfl) (by kernel_rfl) (by kernel_rfl) (by kernel_rfl) (wanted_none rfl) (fun _ _ _ h => h) (fun U hU => r_ld3 (b := b) (o := 3) (by simp [eval_put_ne, eval_put_eq, size_put, hts]) ((HLw.kept ((hS0).trans hU (fun _ _ h => h))).cell 3)) ?_
        refine tkS 6 31 (v := .int .i64 ((l.sz : Int) - 2)) hS0 rfl rfl (by kernel_rfl) (by kernel_rfl) (by kernel_rfl) (by kernel_rfl) (wanted_none rfl) (fun _ _ _ h => h) (fun U hU => r_rgsub2 (i := l.sz) (by simp [eval_put_ne, eval_put_eq, size_put, hts]) rfl HZ0.out) ?_
        refine oneCS 1 26 (by kernel_rfl) rfl rfl (wanted_none rfl) (r_call1 Try.func47 (by kernel_rfl) rfl rfl (by simp [eval_put_ne, eval_put_eq, size_put, hts])) (rsect_at w0 ⟨3, xt, xm, ⟨xa, xn, xc⟩, xw⟩ HXw B HB.out HBl.out n Hn.out) ?_
        rintro e v1 ⟨rfl, k1⟩
        refine ⟨_, rfl, k1, ?_⟩
        refine raiseM (S' := Kept (fun _ => False) v1) (fun U hU => k1.trans hU (fun _ _ h => h)) ?_
        have hs1 : (Kept (fun _ => False) v1) _ := Kept.refl _ _
        refine tkS 7 32 (v := .bool sb) hs1 rfl rfl (by kernel_rfl) (by kernel_rfl) (by kernel_rfl) (by kernel_rfl) (wanted_none rfl) (fun _ _ _ h => h) (fun U hU => r_rggtr (i := (n : Int)) (j := (l.sz : Int) - 2) (by simp [eval_put_ne, eval_put_eq, size_put, hts]) (by simp [eval_put_ne, eval_put_eq, size_put, hts]) HSb.out) ?_
        refine doneS (by kernel_rfl) ?_
        rw [hfr.out]
        clear hfr e0 e4 hts
        simp only [put_lit, put_none, List.set_cons_succ, List.set_cons_zero]
        have HK3 := hide ((HK2.out.trans hkw (fun _ _ h => h)).trans k1 (fun _ _ h => h))
        have HL3 := hide (HLw.kept k1)
        have HX3 := hide (HXw.kept k1)
        have HC3 := hide (k1.blk HCw (fun h => h))
        clear hS0 hs1 k1 hkw hheap HLw HCw HXw

        clear ce h0 h0'
        cases sb with
        | true =>
          have hec : (42 : Int) = ec := by rw [← HE3.out, if_pos (of_decide_eq_true HSb.out)]
          subst hec
          go_wp2
          go_ret
          exact ⟨rfl, HK3.out⟩
        | false =>
          have HE4 := HE3.out
          rw [if_neg (of_decide_eq_false HSb.out)] at HE4
          obtain ⟨gi, hgi⟩ : ∃ r, decide (l.en % l.sz + n < l.sz) = r := ⟨_, rfl⟩
          obtain ⟨mt, hmt⟩ : ∃ r, decide (((l.en / l.sz : Nat) : Int) + 1 - l.sg < low) = r := ⟨_, rfl⟩
          have HGi := hide hgi
          have HMt := hide hmt
          have HE5 := hide HE4
          clear HE4 hgi hmt
          go_wp2_with (first
            | (with_reducible refine aw_load (t := 37) (M := [.int .i64 3, .int .i64 xt, .int .i64 xm, .slice xa xn xc]) Try.agg37 rfl HC3.out (by simp [Value.cells]) (by simp [Value.cells]) ?_)
            | fail)
          refine (goesIn_at _ b l HL3.out ⟨3, xt, xm, ⟨xa, xn, xc⟩, xw⟩ HX3.out HZ0.out HEn.out B HB.out HBl.out n Hn.out Hn2.out gi HGi.out).mono ?_
          rintro e w4 ⟨rfl, hk4⟩
          have HK4 := hide (HK3.out.trans hk4 (fun _ _ h => h))
          have HL4 := hide (HL3.out.kept hk4)
          clear hk4
          cases gi with
          | true =>
            have hec : (0 : Int) = ec := by rw [← HE5.out, if_pos (.inl (of_decide_eq_true HGi.out))]
            subst hec
            go_wp2
            go_ret
            exact ⟨rfl, HK4.out⟩
          | false =>
            go_wp2_with fail
            refine (mayTurn_at w4 b l HL4.out low HZ0.out HG.out HEn.out mt HMt.out).mono ?_
            rintro e w5 ⟨rfl, hk5⟩
            have HK5 := hide (HK4.out.trans hk5 (fun _ _ h => h))
            clear hk5
            cases mt with
            | true =>
              have hec : (0 : Int) = ec := by rw [← HE5.out, if_pos (.inr (of_decide_eq_true HMt.out))]
              subst hec
              go_wp2
              go_ret
              exact ⟨rfl, HK5.out⟩
            | false =>
              have hec : (30 : Int) = ec := by rw [← HE5.out, if_neg (fun h => h.elim (of_decide_eq_false HGi.out) (of_decide_eq_false HMt.out))]
              subst hec
              go_wp2
              go_ret
              exact ⟨rfl, HK5.out⟩
  · have hec : (2 : Int) = ec := by rw [← HEc.out]; unfold roomE; rw [if_pos (.inl h3)]
    subst hec
    go_wp2
    go_ret
    exact ⟨rfl, HK1.out⟩
end Go.Proofs.Ytbbhchmdggfncaa


/-
  Start, of package ring.
-/
namespace Go.Proofs.Ytbbhchmdggfncaa
open Go.RowKit Go.Shelf
set_option linter.unusedSimpArgs false
set_option linter.unusedVariables false
set_option maxRecDepth 100000

section
variable {ρ : Operand → Value} {w : World} {dst : Option Tmp} {ty : TypeId} {pos : String} {aft : Array Edge} {gd : Option (Nat × Bool)} {x y z : Operand}
theorem r_rgmulB {i j q : Nat} (hx : ρ x = .int .i64 i) (hy : ρ y = .int .i64 j) (hq : q ≤ 9223372036854775807) (h : i * j = q) : (execOp ρ ⟨dst, .binOp .mul 3 x y 3, ty, pos, aft, gd⟩).run Try.prog w = .ok (.value (.int .i64 (q : Nat))) w := by
  have h1 : (i : Int) * j = q := by rw [← h]; exact (Int.natCast_mul i j).symm
  have hw : IntKind.i64.wrap (q : Int) = (q : Int) := by rw [IntKind.wrap_i64]; omega
  clear h
  go_simp
end
/-- A step of the log: its end, its device. -/
def RStep (w w' : World) (b n : Nat) (l' : Lg) (s' : D.DS) (F : Nat → Prop) : Prop :=
  Kept (fun k => F k ∨ k = b) w w' ∧ LogAt w' b l' ∧ ∃ F', D.DevAt w' l'.db n s' F' ∧ ¬ F' b ∧ ∀ k, F' k → F k ∨ w.heap.size ≤ k

theorem RStep.ofDev {w w' : World} {b n : Nat} {l : Lg} {s : D.DS} {F : Nat → Prop} (hb : b < w.heap.size) (hFb : ¬ F b) (hl : LogAt w' b l) (h : D.DevStep w w' l.db n s F) : RStep w w' b n l s F := by
  obtain ⟨h1, F', h2, h3⟩ := h
  exact ⟨h1.mono (fun _ _ h => .inl h), hl, F', h2, fun h => (h3 b h).elim hFb (fun h => by omega), h3⟩
theorem RStep.setEnd {w w' : World} {b n : Nat} {l : Lg} {s : D.DS} {F : Nat → Prop} (hb : b < w.heap.size) (hFb : ¬ F b) (hl : LogAt w' b l) (h : D.DevStep w w' l.db n s F) (p : Nat) :
    RStep w (w'.setCell ⟨b, 4, none⟩ (.int .i64 (p : Nat))) b n { l with en := p } s F := by
  obtain ⟨h1, F', h2, h3⟩ := h
  have hn : ¬ F' b := fun h => (h3 b h).elim hFb (fun h => by omega)
  have hk : Kept (fun k => k = b) w' (w'.setCell ⟨b, 4, none⟩ (.int .i64 (p : Nat))) := Kept.setCell w' ⟨b, 4, none⟩ _ rfl
  refine ⟨(h1.mono (fun _ _ h => .inl h)).trans hk (fun _ _ h => .inr h), ?_, F', h2.kept hk (fun k hk e => hn (e ▸ hk)), hn, h3⟩
  exact Blk.setCell hl 4 _

set_option maxHeartbeats 8000000 in
theorem rgstart_at (w : World) (b n : Nat) (l : Lg) (s : D.DS) (F : Nat → Prop) (h : LogAt w b l) (hd : D.DevAt w l.db n s F) (hFb : ¬ F b) (hz : 1 ≤ l.sz ∧ l.sz ≤ 64) (hg : 1 ≤ l.sg ∧ l.sg ≤ 64) (hr : l.fr + l.sg * l.sz ≤ n)
    (sgm : Nat) (hs : sgm ≤ 1099511627776) (ep : Int) (hep : 0 ≤ ep ∧ ep ≤ 4294967295) (tl num : Int) (hrt : rightR ⟨1, tl, num, []⟩ = true) (B : List Nat) (hB : putRN ⟨1, tl, num, []⟩ = B) (hl : B.length ≤ 10000) (h0 : 0 < B.length) (mh : Nat) (hm : sectN B.length = mh) (hfit : mh ≤ l.sz)
    (p : Nat) (hp : sgm * l.sz = p) (a : Nat) (ha : l.fr + p / l.sz % l.sg * l.sz + p % l.sz = a) (A : List Nat) (hA : (sectorsOf p (fun _ => ep) B).flatten = A)
    (hc : s.calls < 4611686018427387904) (hlen : s.ws.length + mh < 1000000000) (ec : Int) (hec : wErr s = ec) :
    Calls Try.prog 7 #[.pointer (some ⟨b, 0, none⟩), .int .i64 sgm, .int .i64 ep, .int .i64 tl, .int .i64 num] w fun e w' => e = .returned (.int .i64 ec) ∧ RStep w w' b n (if ec = 0 then { l with en := p + mh } else l) (wDev s a mh A) F := by
  have hp2 : p ≤ 1099511627776 * 64 := by rw [← hp]; exact Nat.mul_le_mul hs hz.2
  have hpm : p % l.sz = 0 := by rw [← hp]; exact Nat.mul_mod_left _ _
  have hfit2 : p % l.sz + mh ≤ l.sz := by omega
  have hbw : b < w.heap.size := (Array.getElem?_eq_some_iff.1 h).1
  have HL0 := hide h
  have HD0 := hide hd
  have HFb := hide hFb
  have HFlt := hide hd.lt
  have HZ0 := hide hz
  have HG0 := hide hg
  have HR := hide hr
  have HEp := hide hep
  have HRt := hide hrt
  have HB := hide hB
  have HBl := hide hl
  have HB0 := hide h0
  have HMh := hide hm
  have HFit := hide hfit2
  have Hp := hide hp
  have Hp2 : Hid (p ≤ 9223372036854775807) := hide (by omega)
  have Hp3 : Hid (p ≤ 4611686018427387000) := hide (by omega)
  have Ha := hide ha
  have HA := hide hA
  have HC0 := hide hc
  have HW0 := hide hlen
  have HEc := hide hec
  have Hbw := hide hbw
  have HWi := hide (fun W => rgwithin_at W sgm 0 1099511627776 true (by simp; omega))
  have HEi := hide (fun W => epoch_at W ep true (by simp; omega))
  obtain ⟨i37, hi37, hz37, hs37, hb37⟩ := info_parts Try.info37
  have Hi37 := hide hi37
  have Hz37 := hide hz37
  clear hi37 hz37 hs37 hb37 h hd hFb hz hg hr hep hrt hB hl h0 hm hfit hp ha hA hc hlen hec hp2 hpm hfit2 hbw hs
  go_enter Try.func7, Try.ntmps7
  go_wp2_with fail
  refine (made_at w b l HL0.out).mono ?_
  rintro e w' ⟨rfl, rfl⟩
  go_wp2_with fail
  refine (head_at w tl num).mono ?_
  rintro e w1 ⟨rfl, hk1⟩
  go_wp2_with (first
    | ((with_reducible refine aw_alloc (dst := some 11) Hi37.out Hz37.out ?_); intro w2 hb2 hk2 hz2; have Yz2 := hide hz2; clear hz2)
    | ((with_reducible refine aw_store (x := .tmp 11) (M := [.int .i64 1, .int .i64 tl, .int .i64 num, .slice none 0 0]) Try.agg37 rfl rfl rfl (by simp [Value.oneCell']) hb2 (by simp [Value.cells]) ?_); intro w3 hb3 hk3 hz3; have Yz3 := hide hz3; clear hz3; rw [put_whole _ _ (by simp [Value.cells])] at hb3; have hk13 : Kept (fun _ => False) w1 w3 := hk2.trans hk3 (fun i hi h => by omega))
    | fail)
  obtain ⟨c, hc⟩ : ∃ c, c = w1.heap.size := ⟨_, rfl⟩
  rw [← hc] at hb3 ⊢
  have HFc : Hid (¬ F c) := hide (fun h => by have := HFlt.out c h; have := hk1.size; omega)
  have HC1 : Hid (Blk w3 c [.int .i64 1, .int .i64 tl, .int .i64 num, .slice none 0 0] 37) := hide hb3
  have HK1 := hide (hk1.trans hk13 (fun _ _ h => h))
  clear hk1 hb2 hk2 hb3 hk3 hk13 hc Yz2 Yz3
  refine (HWi.out w3).mono ?_
  rintro e w' ⟨rfl, rfl⟩
  go_wp2_with fail
  refine (HEi.out w3).mono ?_
  rintro e w' ⟨rfl, rfl⟩
  go_wp2_with (first
    | (with_reducible refine aw_loadG (t := 37) (M := [.int .i64 1, .int .i64 tl, .int .i64 num, .slice none 0 0]) rfl Try.agg37 rfl HC1.out (by simp [Value.cells]) (by simp [Value.cells]) ?_)
    | fail)
  refine (rcright_at w3 ⟨1, tl, num, ⟨none, 0, 0⟩, []⟩ (WsAt.nil w3)).mono ?_
  rintro e w4 ⟨rfl, hk4⟩
  have hrt : rightR (Rv.rc ⟨1, tl, num, ⟨none, 0, 0⟩, []⟩) = true := HRt.out
  rw [hrt]
  clear hrt
  have HK2 := hide (HK1.out.trans hk4 (fun _ _ h => h))
  have HC2 := hide (hk4.blk HC1.out (fun h => h))
  have HL2 := hide (HL0.out.kept HK2.out)
  have HD2 := hide (HD0.out.kept HK2.out (fun _ _ h => h))
  clear hk4
  go_wp2_with fail
  refine hold_frame (p := fun fr => Code.wp Try.prog _ _ fr _) ?_
  intro fr hfr
  have e0 : fr.eval (.tmp 0) = .pointer (some ⟨b, 0, none⟩) := by rw [hfr.out]; rfl
  have e1 : fr.eval (.tmp 1) = .int .i64 sgm := by rw [hfr.out]; rfl
  have e2 : fr.eval (.tmp 2) = .int .i64 ep := by rw [hfr.out]; rfl
  have e11 : fr.eval (.tmp 11) = .pointer (some ⟨c, 0, none⟩) := by rw [hfr.out]; rfl
  have hts : fr.tmps.size = 53 := by rw [hfr.out]; rfl
  refine region_S0 99 Try.mixed ?_
  intro w0 hkw hheap
  have HLw := HL2.out.kept hkw
  have HDw := HD2.out.kept hkw (fun _ _ h => h)
  have HCw := hkw.blk HC2.out (fun h => h)
  have hS0 : Kept F w0 w0 := Kept.refl F w0
  refine ⟨Kept F w0, ?_⟩
  refine tkS 0 34 (v := .pointer (some ⟨b, 0, none⟩)) hS0 rfl rfl (by kernel_rfl) (by kernel_rfl) (by kernel_rfl) (by kernel_rfl) (wanted_none rfl) (fun _ _ _ h => h) (fun U hU => r_move (by simp [eval_put_ne, eval_put_eq, size_put, hts, e0])) ?_
  refine tkS 1 35 (v := .int .i64 sgm) hS0 rfl rfl (by kernel_rfl) (by kernel_rfl) (by kernel_rfl) (by kernel_rfl) (wanted_none rfl) (fun _ _ _ h => h) (fun U hU => r_move (by simp [eval_put_ne, eval_put_eq, size_put, hts, e1])) ?_
  refine tkS 2 36 (v := .pointer (some ⟨b, 0, none⟩)) hS0 rfl rfl (by kernel_rfl) (by kernel_rfl) (by kernel_rfl) (by kernel_rfl) (wanted_none rfl) (fun _ _ _ h => h) (fun U hU => r_move (by simp [eval_put_ne, eval_put_eq, size_put, hts, e0])) ?_
  refine tkS 3 37 (v := .pointer (some ⟨b, 0, none⟩)) hS0 rfl rfl (by kernel_rfl) (by kernel_rfl) (by kernel_rfl) (by kernel_rfl) (wanted_none rfl) (fun _ _ _ h => h) (fun U hU => r_nilChk (by simp [eval_put_ne, eval_put_eq, size_put, hts])) ?_
  refine tkS 4 38 (v := .pointer (some ⟨b, 3, none⟩)) hS0 rfl rfl (by kernel_rfl) (by kernel_rfl) (by kernel_rfl) (by kernel_rfl) (wanted_none rfl) (fun _ _ _ h => h) (fun U hU => r_f66 (b := b) (k := 3) (by decide) (by simp [eval_put_ne, eval_put_eq, size_put, hts])) ?_
  refine tkS 5 39 (v := .int .i64 l.sz) hS0 rfl rfl (by kernel_rfl) (by kernel_rfl) (by kernel_rfl) (by kernel_rfl) (wanted_none rfl) (fun _ _ _ h => h) (fun U hU => r_ld3 (b := b) (o := 3) (by simp [eval_put_ne, eval_put_eq, size_put, hts]) ((hU.blk HLw HFb.out).cell 3)) ?_
  refine tkS 6 40 (v := .int .i64 p) hS0 rfl rfl (by kernel_rfl) (by kernel_rfl) (by kernel_rfl) (by kernel_rfl) (wanted_none rfl) (fun _ _ _ h => h) (fun U hU => r_rgmulB (i := sgm) (j := l.sz) (q := p) (by simp [eval_put_ne, eval_put_eq, size_put, hts]) (by simp [eval_put_ne, eval_put_eq, size_put, hts]) Hp2.out Hp.out) ?_
  refine tkS 7 41 (v := .int .i64 ep) hS0 rfl rfl (by kernel_rfl) (by kernel_rfl) (by kernel_rfl) (by kernel_rfl) (wanted_none rfl) (fun _ _ _ h => h) (fun U hU => r_move (by simp [eval_put_ne, eval_put_eq, size_put, hts, e2])) ?_
  refine tkS 8 42 (v := rAgg 1 tl num ⟨none, 0, 0⟩) hS0 rfl rfl (by kernel_rfl) (by kernel_rfl) (by kernel_rfl) (by kernel_rfl) (wanted_none rfl) (fun _ _ _ h => h) (fun U hU => r_rgrec (b := c) (by simp [eval_put_ne, eval_put_eq, size_put, hts, e11]) (hU.blk HCw HFc.out)) ?_
  refine oneCS 9 43 (by kernel_rfl) rfl rfl (wanted_none rfl) (r_call4 Try.func26 (by kernel_rfl) rfl rfl (by simp [eval_put_ne, eval_put_eq, size_put, hts]) (by simp [eval_put_ne, eval_put_eq, size_put, hts]) (by simp [eval_put_ne, eval_put_eq, size_put, hts]) (by simp [eval_put_ne, eval_put_eq, size_put, hts])) (rgput_at w0 b n l s F HLw HDw HFb.out HZ0.out HG0.out HR.out p Hp3.out ep HEp.out ⟨1, tl, num, ⟨none, 0, 0⟩, []⟩ (fun w' _ => WsAt.nil w') B HB.out HBl.out HB0.out mh HMh.out HFit.out a Ha.out A HA.out HC0.out HW0.out ec HEc.out) ?_
  rintro e v1 ⟨rfl, hst⟩
  refine ⟨_, rfl, hst.1, ?_⟩
  refine tkS 10 33 (v := (.tuple #[.int .i64 (if ec = 0 then ((p + mh : Nat) : Int) else 0), .int .i64 ec])) hst.1 rfl rfl (by kernel_rfl) (by kernel_rfl) (by kernel_rfl) (by kernel_rfl) (wanted_none rfl) (fun _ _ _ h => h) (fun U hU => r_move (by simp [eval_put_ne, eval_put_eq, size_put, hts])) ?_
  refine tkS 11 44 (v := .int .i64 (if ec = 0 then ((p + mh : Nat) : Int) else 0)) hst.1 rfl rfl (by kernel_rfl) (by kernel_rfl) (by kernel_rfl) (by kernel_rfl) (wanted_none rfl) (fun _ _ _ h => h) (fun U hU => r_rgext0 (u := .int .i64 (if ec = 0 then ((p + mh : Nat) : Int) else 0)) (v := .int .i64 ec) (by simp [eval_put_ne, eval_put_eq, size_put, hts])) ?_
  refine tkS 12 45 (v := .int .i64 ec) hst.1 rfl rfl (by kernel_rfl) (by kernel_rfl) (by kernel_rfl) (by kernel_rfl) (wanted_none rfl) (fun _ _ _ h => h) (fun U hU => r_rgext1 (u := .int .i64 (if ec = 0 then ((p + mh : Nat) : Int) else 0)) (v := .int .i64 ec) (by simp [eval_put_ne, eval_put_eq, size_put, hts])) ?_
  refine tkS 13 12 (v := .int .i64 (if ec = 0 then ((p + mh : Nat) : Int) else 0)) hst.1 rfl rfl (by kernel_rfl) (by kernel_rfl) (by kernel_rfl) (by kernel_rfl) (wanted_none rfl) (fun _ _ _ h => h) (fun U hU => r_assign (by simp [eval_put_ne, eval_put_eq, size_put, hts])) ?_
  refine tkS 14 13 (v := .int .i64 ec) hst.1 rfl rfl (by kernel_rfl) (by kernel_rfl) (by kernel_rfl) (by kernel_rfl) (wanted_none rfl) (fun _ _ _ h => h) (fun U hU => r_assign (by simp [eval_put_ne, eval_put_eq, size_put, hts])) ?_
  refine doneS (by kernel_rfl) ?_
  rw [hfr.out]
  clear hfr e0 e1 e2 e11 hts
  simp only [put_lit, put_none, List.set_cons_succ, List.set_cons_zero]
  have HSt := hide (DevStep.pre ((HK2.out).trans hkw (fun _ _ h => h)) hst)
  have HL3 := hide (hst.1.blk HLw HFb.out)
  clear hS0 hst hkw hheap HLw HCw HDw

  by_cases he : ec = 0
  · subst he
    have c4 := HL3.out.cell 4
    simp only [List.getElem?_cons_succ, List.getElem?_cons_zero] at c4
    have f4 : v1.frozen? ⟨b, 4, none⟩ = false := Blk.frozen HL3.out 4
    go_wp2
    go_ret
    refine ⟨rfl, ?_⟩
    exact RStep.setEnd Hbw.out HFb.out HL3.out HSt.out (p + mh)
  · go_wp2
    go_ret
    refine ⟨rfl, ?_⟩
    exact RStep.ofDev Hbw.out HFb.out HL3.out HSt.out
end Go.Proofs.Ytbbhchmdggfncaa


/-
  Add, of package ring: where it is refused, and where the record goes into the segment of the end.
-/
namespace Go.Proofs.Ytbbhchmdggfncaa
open Go.RowKit Go.Shelf
set_option linter.unusedSimpArgs false
set_option linter.unusedVariables false
set_option maxRecDepth 100000

set_option maxHeartbeats 8000000 in
theorem rgadd_no (w : World) (b : Nat) (l : Lg) (h : LogAt w b l) (x : Rv) (hx : RcAt w x) (ep low : Int) (hz : 1 ≤ l.sz ∧ l.sz ≤ 64) (hg : l.sg ≤ 64) (he : l.en ≤ 4611686018427387904) (B : List Nat) (hB : putRN x.rc = B) (hl : B.length ≤ 10000) (n : Nat) (hn : (if B.length = 0 then 0 else sectN B.length) = n) (hn2 : n ≤ 10000) (ec : Int) (hec : roomE l x.rc n low = ec) (hne : ¬ ec = 0) :
    Calls Try.prog 9 #[.pointer (some ⟨b, 0, none⟩), x.agg, .int .i64 ep, .int .i64 low] w fun e w' => e = .returned (.tuple #[.int .i64 0, .int .i64 ec]) ∧ Kept (fun _ => False) w w' := by
  have HRo := hide (fun (w' : World) (hk : Kept (fun _ => False) w w') => rgroom_at w' b l (h.kept hk) x (hx.kept hk) low hz hg he B hB hl n hn hn2 ec hec)
  clear h hx hz hg he hB hl hn hn2 hec
  obtain ⟨xk, xt, xm, ⟨xa, xn, xc⟩, xw⟩ := x
  simp only [Rv.agg] at HRo
  go_enter Try.func9, Try.ntmps9
  go_wp2_with (first
    | ((with_reducible refine aw_box (t := 37) (v := rAgg xk xt xm ⟨xa, xn, xc⟩) rfl ?_); intro w1 hb1 hk1 hz1; clear hz1)
    | (with_reducible refine aw_load (t := 37) (M := [.int .i64 xk, .int .i64 xt, .int .i64 xm, .slice xa xn xc]) Try.agg37 rfl hb1 (by simp [Value.cells]) (by simp [Value.cells]) ?_)
    | fail)
  refine (HRo.out w1 hk1).mono ?_
  rintro e w2 ⟨rfl, hk2⟩
  have HK := hide (hk1.trans hk2 (fun _ _ h => h))
  clear hb1 hk1 hk2
  go_wp2
  go_ret2
  exact ⟨rfl, HK.out⟩

set_option maxHeartbeats 8000000 in
theorem rgadd_in (w : World) (b n : Nat) (l : Lg) (s : D.DS) (F : Nat → Prop) (h : LogAt w b l) (hd : D.DevAt w l.db n s F) (hFb : ¬ F b) (hz : 1 ≤ l.sz ∧ l.sz ≤ 64) (hg : 1 ≤ l.sg ∧ l.sg ≤ 64) (hr : l.fr + l.sg * l.sz ≤ n)
    (hp : l.en ≤ 4611686018427387000) (ep low : Int) (hep : 0 ≤ ep ∧ ep ≤ 4294967295) (x : Rv) (hx : ∀ w', Kept F w w' → RcAt w' x) (B : List Nat) (hB : putRN x.rc = B) (hl : B.length ≤ 10000) (h0 : 0 < B.length) (m : Nat) (hm : sectN B.length = m)
    (hec : roomE l x.rc m low = 0) (hfit : l.en % l.sz + m < l.sz) (a : Nat) (ha : l.fr + l.en / l.sz % l.sg * l.sz + l.en % l.sz = a) (A : List Nat) (hA : (sectorsOf l.en (fun _ => ep) B).flatten = A)
    (hc : s.calls < 4611686018427387904) (hlen : s.ws.length + m < 1000000000) (ec : Int) (hee : wErr s = ec) :
    Calls Try.prog 9 #[.pointer (some ⟨b, 0, none⟩), x.agg, .int .i64 ep, .int .i64 low] w fun e w' => e = .returned (.tuple #[.int .i64 (if ec = 0 then (l.en : Int) else 0), .int .i64 ec]) ∧ RStep w w' b n (if ec = 0 then { l with en := l.en + m } else l) (wDev s a m A) F := by
  have hn : (if B.length = 0 then 0 else sectN B.length) = m := by rw [if_neg (by omega)]; exact hm
  have hbw : b < w.heap.size := (Array.getElem?_eq_some_iff.1 h).1
  have hmono : ∀ w', Kept (fun _ => False) w w' → Kept F w w' := fun w' hk => hk.mono (fun _ _ h => h.elim)
  have HRo := hide (fun (w' : World) (hk : Kept (fun _ => False) w w') => rgroom_at w' b l (h.kept hk) x (hx w' (hmono w' hk)) low hz hg.2 (by omega) B hB hl m hn (by omega) 0 hec)
  have HGi := hide (fun (w' : World) (hk : Kept (fun _ => False) w w') => goesIn_at w' b l (h.kept hk) x (hx w' (hmono w' hk)) hz (by omega) B hB hl m hn (by omega) true (by simpa using hfit))
  have HPu := hide (fun (w' : World) (hk : Kept (fun _ => False) w w') => rgput_at w' b n l s F (h.kept hk) (hd.kept hk (fun _ _ h => h)) hFb hz hg hr l.en hp ep hep x (fun w2 hk2 => hx w2 ((hmono w' hk).trans hk2 (fun _ _ h => h))) B hB hl h0 m hm (by omega) a ha A hA hc hlen ec hee)
  have HEi := hide (fun W => epoch_at W ep true (by simp; omega))
  have HL0 := hide h
  have HFb := hide hFb
  have Hbw := hide hbw
  clear h hd hFb hx hz hg hr hp hep hB hl h0 hm hec hfit ha hA hc hlen hee hn hbw hmono
  obtain ⟨xk, xt, xm, ⟨xa, xn, xc⟩, xw⟩ := x
  simp only [Rv.agg] at HRo HGi HPu
  go_enter Try.func9, Try.ntmps9
  go_wp2_with (first
    | ((with_reducible refine aw_box (t := 37) (v := rAgg xk xt xm ⟨xa, xn, xc⟩) rfl ?_); intro w1 hb1 hk1 hz1; clear hz1)
    | (with_reducible refine aw_load (t := 37) (M := [.int .i64 xk, .int .i64 xt, .int .i64 xm, .slice xa xn xc]) Try.agg37 rfl hb1 (by simp [Value.cells]) (by simp [Value.cells]) ?_)
    | fail)
  refine (HRo.out w1 hk1).mono ?_
  rintro e w2 ⟨rfl, hk2⟩
  obtain ⟨c, hc⟩ : ∃ c, c = w.heap.size := ⟨_, rfl⟩
  rw [← hc] at hb1 ⊢
  have HC2 : Hid (Blk w2 c [.int .i64 xk, .int .i64 xt, .int .i64 xm, .slice xa xn xc] 37) := hide (hk2.blk hb1 (fun h => h))
  have HK2 := hide (hk1.trans hk2 (fun _ _ h => h))
  clear hb1 hk1 hk2 hc
  go_wp2_with fail
  refine (HEi.out w2).mono ?_
  rintro e w' ⟨rfl, rfl⟩
  have c4 := (HL0.out.kept HK2.out).cell 4
  simp only [List.getElem?_cons_succ, List.getElem?_cons_zero] at c4
  go_wp2_with (first
    | (with_reducible refine aw_load (t := 37) (M := [.int .i64 xk, .int .i64 xt, .int .i64 xm, .slice xa xn xc]) Try.agg37 rfl HC2.out (by simp [Value.cells]) (by simp [Value.cells]) ?_)
    | fail)
  refine (HGi.out w2 HK2.out).mono ?_
  rintro e w3 ⟨rfl, hk3⟩
  have HK3 := hide (HK2.out.trans hk3 (fun _ _ h => h))
  have HC3 := hide (hk3.blk HC2.out (fun h => h))
  clear hk3 c4
  go_wp2_with (first
    | (with_reducible refine aw_load (t := 37) (M := [.int .i64 xk, .int .i64 xt, .int .i64 xm, .slice xa xn xc]) Try.agg37 rfl HC3.out (by simp [Value.cells]) (by simp [Value.cells]) ?_)
    | fail)
  refine (HPu.out w3 HK3.out).mono ?_
  rintro e w4 ⟨rfl, hst⟩
  have HSt := hide (DevStep.pre HK3.out hst)
  have HL4 := hide (hst.1.blk (HL0.out.kept HK3.out) HFb.out)
  clear hst
  by_cases h1 : ec = 0
  · subst h1
    have c4 := HL4.out.cell 4
    simp only [List.getElem?_cons_succ, List.getElem?_cons_zero] at c4
    have f4 : w4.frozen? ⟨b, 4, none⟩ = false := Blk.frozen HL4.out 4
    go_wp2
    go_ret2
    refine ⟨by first | rfl | simp, ?_⟩
    exact RStep.setEnd Hbw.out HFb.out HL4.out HSt.out (l.en + m)
  · go_wp2
    go_ret2
    refine ⟨by simp [h1], ?_⟩
    first | exact RStep.ofDev Hbw.out HFb.out HL4.out HSt.out | (rw [if_neg h1]; exact RStep.ofDev Hbw.out HFb.out HL4.out HSt.out)
end Go.Proofs.Ytbbhchmdggfncaa
