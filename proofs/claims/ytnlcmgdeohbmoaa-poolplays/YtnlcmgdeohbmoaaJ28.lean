/-
  What Save does to a device, without memory; the word of its loop.
-/
import Derived.Test.YtnlcmgdeohbmoaaJ27
namespace Go.Proofs.Ytnlcmgdeohbmoaa
open Go.RowKit Go.Shelf
set_option linter.unusedSimpArgs false
set_option linter.unusedVariables false
set_option maxRecDepth 100000

/-- Blocks are written, one after the other, as long as none fails. -/
def runW (fr : Nat) : List EntP → D.DS → D.DS × Int
  | [], s => (s, 0)
  | e :: L, s => if wErr s = 0 then runW fr L (wDev s (fr + e.1.toNat) 1 e.2.B) else (wDev s (fr + e.1.toNat) 1 e.2.B, wErr s)
theorem runW_append (fr : Nat) : ∀ (a b : List EntP) (s : D.DS), runW fr (a ++ b) s = if (runW fr a s).2 = 0 then runW fr b (runW fr a s).1 else runW fr a s
  | [], b, s => by simp [runW]
  | e :: a, b, s => by
    simp only [List.cons_append, runW]
    split
    · exact runW_append fr a b _
    · rename_i h
      simp [h]
theorem runW_one (fr : Nat) (e : EntP) (s : D.DS) : runW fr [e] s = (wDev s (fr + e.1.toNat) 1 e.2.B, wErr s) := by
  simp only [runW]
  split
  · rename_i h; rw [h]
  · rfl
theorem wDev_ws (s : D.DS) (a m : Nat) (A : List Nat) : (wDev s a m A).ws.length ≤ s.ws.length + m := by
  unfold wDev
  split
  · omega
  · split
    · unfold D.DS.spent; split <;> simp
    · unfold D.DS.written D.secs; simp
theorem runW_bound (fr : Nat) : ∀ (L : List EntP) (s : D.DS), (runW fr L s).1.calls ≤ s.calls + L.length ∧ (runW fr L s).1.ws.length ≤ s.ws.length + L.length
  | [], s => by simp [runW]
  | e :: L, s => by
    have h1 := wDev_calls s (fr + e.1.toNat) 1 e.2.B
    have h2 := wDev_ws s (fr + e.1.toNat) 1 e.2.B
    have h3 := runW_bound fr L (wDev s (fr + e.1.toNat) 1 e.2.B)
    simp only [runW]
    split
    · simp only [List.length_cons]; omega
    · simp only [List.length_cons]; omega
theorem wErr_cases (s : D.DS) : wErr s = 0 ∨ wErr s = 10 := by
  unfold wErr
  split
  · exact .inr rfl
  · split
    · exact .inr rfl
    · exact .inl rfl
theorem runW_cases (fr : Nat) : ∀ (L : List EntP) (s : D.DS), (runW fr L s).2 = 0 ∨ (runW fr L s).2 = 10
  | [], s => .inl rfl
  | e :: L, s => by
    simp only [runW]
    split
    · exact runW_cases fr L _
    · exact wErr_cases s
theorem errF_cases (s : D.DS) : s.errF = 0 ∨ s.errF = 10 := by
  unfold D.DS.errF D.DS.errS
  split
  · exact .inr rfl
  · split
    · exact .inr rfl
    · exact .inl rfl
/-- What Save leaves: the device, the error, the pool. -/
def PL.saveD (l : PL) (s : D.DS) : D.DS := if (runW l.fr l.dirty s).2 = 0 then (runW l.fr l.dirty s).1.flushed else (runW l.fr l.dirty s).1
def PL.saveE (l : PL) (s : D.DS) : Int := if (runW l.fr l.dirty s).2 = 0 then (runW l.fr l.dirty s).1.errF else (runW l.fr l.dirty s).2
def PL.saveP (l : PL) (s : D.DS) : PL := if l.saveE s = 0 then { l with dirty := [] } else l
theorem DevAt_nb {w : World} {b n g : Nat} {s : D.DS} {F : NSet} {L : List Value} {t : TypeId} (h : D.DevAt w b n s F) (hb : Blk w g L t) (h1 : t ≠ 72) (h2 : t ≠ 129) (h3 : t ≠ 131) : ¬ F g := by
  obtain ⟨bs, wv, hd, hf⟩ := h
  intro hF
  rcases (hf g).1 hF with e | e | e
  · subst e; exact h1 (hb.same hd.hb).2
  · subst e; exact h2 (hb.same hd.hs).2
  · exact ownsRow_blk_ne hd.hw hb h3 e
theorem DevAt_cells {w : World} {b n : Nat} {s : D.DS} {F : NSet} (h : D.DevAt w b n s F) : ∀ k, F k → IsCells w k := by
  obtain ⟨bs, wv, hd, hf⟩ := h
  exact fun k hk => hd.cells k ((hf k).1 hk)
/-- The word of Save's loop. -/
def SvI (w1 : World) (rc db nd fr : Nat) (s : D.DS) (F0 : NSet) (g : Bool) (pre : List EntP) (F : NSet) (W : World) : Prop :=
  ∃ Fd, decide ((runW fr pre s).2 = 0) = g ∧ D.DevAt W db nd (runW fr pre s).1 Fd ∧ (∀ k, F k ↔ k = rc ∨ Fd k) ∧ Blk W rc [.int .i64 (runW fr pre s).2] 25 ∧ Kept (fun k => k = rc ∨ F0 k) w1 W ∧ ∀ k, Fd k → F0 k ∨ w1.heap.size ≤ k
theorem SvI.own (w1 : World) (rc db nd fr : Nat) (s : D.DS) (F0 : NSet) (g : Bool) (B : Nat) (hB : w1.heap.size ≤ B) (pre : List EntP) (F : NSet) : OwnFrom B (fun (_ : Unit) W => SvI w1 rc db nd fr s F0 g pre F W) := by
  rintro _ W W' row ⟨Fd, h1, h2, h3, h4, h5, h6⟩ hg hr
  have hk := Kept.of_grown hg
  have hn : ∀ k, IsCells W k → ¬ row = some k := fun k hc e => by
    obtain ⟨_, o, h1, h2⟩ := hr k e
    exact hc.not_loop h1 h2
  refine ⟨Fd, h1, h2.kept hk (fun k hk => hn k (DevAt_cells h2 k hk)), h3, hk.blk h4 (hn _ h4.isCells), h5.trans hk (fun i hi e => ?_), h6⟩
  have := (hr i e).1
  omega
theorem SvI.foot (w1 : World) (rc db nd fr : Nat) (s : D.DS) (F0 : NSet) (g : Bool) (B : Nat) (hB : w1.heap.size ≤ B) : FootOk B (SvI w1 rc db nd fr s F0 g) := by
  refine ⟨SvI.own w1 rc db nd fr s F0 g B hB, ?_⟩
  rintro pre F W ⟨Fd, h1, h2, h3, h4, h5, h6⟩ k hk hB'
  rcases (h3 k).1 hk with rfl | h
  · exact h4.isCells
  · exact DevAt_cells h2 k h
/-- A region that draws, within a round. -/
theorem region_Sin {P : Program} {ops : Array Oper} {Q : Exit → Act → World → Prop} {a : Act} {w : World} {id lo n : Nat} (m : Nat) (hm : P.follows .mixedOrders = true) (hQ : ¬ LetsOut Q) (hnd : ops.all (fun o => match o.op with | .defer _ => false | _ => true) = true)
    (h : ∀ w', Kept (fun _ => False) w w' → w'.heap = w.heap → ∃ S : World → Prop, wpAnyM P .any ops Q S m ops.size (Array.replicate ops.size false) a w') : (Code.region id ops true).wpIn (Fence.wide.inRound lo) n P Q a w := by
  obtain ⟨S, h⟩ := h { w with drawn := w.drawn + 1 } ⟨rfl, rfl, rfl, Nat.le_refl _, fun _ _ _ => rfl⟩ rfl
  refine wpIn_region_any hm (wpAnyIn_of_wpAny hQ ?_ _ _ _ _ (wpAny_of_M _ _ _ _ h))
  intro i o ho c e
  have := Array.all_eq_true'.1 hnd o (Array.mem_of_getElem? ho)
  rw [e] at this
  cases this
theorem loadVarE {t : TypeId} {b : Nat} {v : Value} {e : TypeId} {w : World} (ht : (isAgg t).run Try.prog w = .ok false w) (hb : Blk w b [v] e) : (loadVar t ⟨b, 0, none⟩).run Try.prog w = .ok v w := by
  have hc : w.cell? ⟨b, 0, none⟩ = some v := hb.cell 0
  simp [loadVar, ht, go_sem, hc]
theorem results_cellE {fn : Func} {tmps : Array Value} {w : World} {b : Nat} {v : Value} (h : fn.results = #[.cell 2 25]) (h2 : tmps.getD 2 undef = .pointer (some ⟨b, 0, none⟩)) (hb : Blk w b [v] 25) :
    (results fn tmps).run Try.prog w = .ok v w := by
  have k := loadVarE (t := 25) (by simp [isAgg, go_sem]) hb
  simp only [Array.getD_eq_getD_getElem?] at h2
  simp [results, h, h2, k, asAddr]
end Go.Proofs.Ytnlcmgdeohbmoaa

/-
  Save of a pool.
-/
namespace Go.Proofs.Ytnlcmgdeohbmoaa
open Go.RowKit Go.Shelf
set_option linter.unusedSimpArgs false
set_option linter.unusedVariables false
set_option maxRecDepth 100000
attribute [local go_sem] Oper.semAt_some

theorem Try.info25 : (Try.prog.info? 25).map (fun i => (i.zero, i.size, i.bytes)) = some (some (.int .i64 0), 1, 8) := by kernel_rfl
section
variable {ρ : Operand → Value} {w : World} {dst : Option Tmp} {ty : TypeId} {pos : String} {aft : Array Edge} {gd : Option (Nat × Bool)} {x y z : Operand}
theorem r_fP4 {b : Nat} (hx : ρ x = .pointer (some ⟨b, 0, none⟩)) : (execOp ρ ⟨dst, .fieldAddr 76 x 4, ty, pos, aft, gd⟩).run Try.prog w = .ok (.value (.pointer (some ⟨b, 4, none⟩))) w := by
  go_simp
theorem r_stP74 {b o : Nat} {u : Value} {a : Option Addr} (hx : ρ x = .pointer (some ⟨b, o, none⟩)) (hy : ρ y = .pointer a) (hc : w.cell? ⟨b, o, none⟩ = some u) (hf : w.frozen? ⟨b, o, none⟩ = false) : (execOp ρ ⟨dst, .store 74 x y, ty, pos, aft, gd⟩).run Try.prog w = .ok .skip (w.setCell ⟨b, o, none⟩ (.pointer a)) := by
  go_simp
theorem r_call0 {f : FuncId} {fn : Func} {c : Code} (hf : Try.prog.funcs[f]? = some fn) (hn : (fn.name == "runtime.NumGoroutine") = false) (hb : fn.body = some c) (hfv : ρ (.func f) = .func (.func f) #[] #[]) :
    (execOp ρ ⟨dst, .call { callee := .value (.func f), args := #[], argTypes := #[] }, ty, pos, aft, gd⟩).run Try.prog w = .ok (.enter f #[]) w := by
  have h := enters_of hf hn hb #[] w
  simp [execOp, resolve, hfv, Deferred.ofValue, invoke, h]
end
/-- A device and a pool over it, behind a call. -/
def PDStep (w w' : World) (db nd : Nat) (s : D.DS) (b : Nat) (l : PL) (F X : NSet) : Prop := Kept (fun k => F k ∨ X k) w w' ∧ ∃ F' X', PDv w' db nd s b l F' X' ∧ ∀ k, F' k ∨ X' k → (F k ∨ X k) ∨ w.heap.size ≤ k
theorem poolsave_nil (w : World) : Calls Try.prog 15 #[.pointer none] w fun e w' => e = .returned (.int .i64 1) ∧ Kept (fun _ => False) w w' := by
  obtain ⟨i25, hi25, hz25, hs25, hb25⟩ := info_parts Try.info25
  have Hi25 := hide hi25
  have Hz25 := hide hz25
  have Hs25 := hide hs25
  clear hi25 hz25 hs25 hb25
  go_enter Try.func15, Try.ntmps15
  go_wp2_with (first
    | ((with_reducible refine aw_box (t := 28) (v := .pointer none) rfl ?_); intro w1 hb1 hk1 hz1; have c0 : w1.cell? ⟨w.heap.size, 0, none⟩ = some (.pointer none) := hb1.cell 0; have HK1 := hide hk1; have HB1 := hide hb1; clear hk1 hz1 hb1)
    | ((with_reducible refine aw_alloc (t := 25) Hi25.out Hz25.out ?_); intro w2 hb2 hk2 hz2; have c0 : w2.cell? ⟨w.heap.size, 0, none⟩ = some (.pointer none) := (hk2.blk HB1.out (fun h => h)).cell 0; have HB2 := hide hb2; have HK2 := hide (HK1.out.trans hk2 (fun _ _ h => h)); clear hb2 hk2 hz2)
    | ((with_reducible refine aw_store1 (v := .int .i64 1) Hi25.out Hs25.out rfl rfl rfl rfl HB2.out (by simp [Value.cells]) ?_); intro w3 hw3 hk3 hz3; have HW3 := hide hw3; have HK3 := hide hk3; clear hw3 hk3 hz3))
  refine bodyPost_ret (results_cellE rfl rfl HW3.out) rfl ?_
  exact ⟨rfl, HK2.out.trans HK3.out (fun k hk h => by have := HK1.out.size; omega)⟩
set_option maxHeartbeats 8000000 in
theorem poolsave_at (w : World) (db nd : Nat) (s : D.DS) (b : Nat) (l : PL) (F X : NSet) (h : PDv w db nd s b l F X) (hl : l.dirty.length ≤ 1000000) (hc : s.calls ≤ 1000000000) (hws : s.ws.length ≤ 100000000) (hin : ∀ e ∈ l.dirty, 0 ≤ e.1 ∧ e.1 < l.n) :
    Calls Try.prog 15 #[.pointer (some ⟨b, 0, none⟩)] w fun e w' => e = .returned (.int .i64 (l.saveE s)) ∧ PDStep w w' db nd (l.saveD s) b (l.saveP s) F X := by
  obtain ⟨ph, vh, pd, vd, hp, hx⟩ := h.pool
  have hn2 : nd ≤ 4096 := by obtain ⟨bs, wv, hd, _⟩ := h.dev; exact hd.n2
  have H0 := hide h
  have HP := hide hp
  have HX := hide hx
  have HIn := hide hin
  have hfit := h.fit
  have HFlt := hide h.dev.lt
  have HXlt := hide h.pool.lt
  obtain ⟨i25, hi25, hz25, hs25, hb25⟩ := info_parts Try.info25
  have Hi25 := hide hi25
  have Hz25 := hide hz25
  have Hs25 := hide hs25
  obtain ⟨i0, hi0, hz0, hs0, hb0⟩ := info_parts Try.info79
  have Hi0 := hide hi0
  have Hz0 := hide hz0
  clear h hp hx hin hi0 hz0 hs0 hb0 hi25 hz25 hs25 hb25
  refine (callsIn_wide (n := 4)).1 (callsIn_of_wp_marks Try.func15 rfl trivial (wpIn_wide.2 ?_) rfl)
  simp only [Try.ntmps15, List.size_toArray, List.length_cons, List.length_nil, Nat.reduceAdd, Nat.reduceSub, Array.replicate_succ, Array.replicate_zero, List.push_toArray, List.append_toArray, List.nil_append, List.cons_append]
  go_wp2_with (first
    | ((with_reducible refine aw_box (t := 28) (v := .pointer (some ⟨b, 0, none⟩)) rfl ?_); intro w1 hb1 hk1 hz1; have HK1 := hide hk1; have HB1 := hide hb1; have Hz1 := hide hz1; clear hk1 hz1 hb1)
    | ((with_reducible refine aw_alloc (t := 25) Hi25.out Hz25.out ?_); intro w2 hb2 hk2 hz2; have c0 : w2.cell? ⟨w.heap.size, 0, none⟩ = some (.pointer (some ⟨b, 0, none⟩)) := (hk2.blk HB1.out (fun h => h)).cell 0; have HBp := hide (hk2.blk HB1.out (fun h => h)); have c4 : w2.cell? ⟨b, 4, none⟩ = some (.pointer (some ⟨pd, 0, none⟩)) := (HP.out.kept (HK1.out.trans hk2 (fun _ _ h => h)) (fun _ _ h => h)).blk.cell 4; have HB2 := hide hb2; have HK2 := hide (HK1.out.trans hk2 (fun _ _ h => h)); have Hz2 := hide hz2; clear hb2 hk2 hz2)
    | (go_at_call 35; refine (all_atP w2 _).mono ?_; rintro e w3 ⟨rfl, hw3⟩; have HW3 := hide hw3; clear hw3))
  have hkw3 : Kept (fun _ => False) w2 w3 := by rw [HW3.out]; exact Kept.alloc _ _ _
  have hbm : Blk w3 w2.heap.size [.pointer (some ⟨pd, 0, none⟩)] 74 := by rw [HW3.out]; exact Blk.newA w2 _ _
  have hsz3 : w3.heap.size = w.heap.size + 3 := by rw [HW3.out]; simp [Hz1.out, Hz2.out]
  have hsz1 := Hz1.out
  have hsz2 := Hz2.out
  have HK3 := hide (HK2.out.trans hkw3 (fun _ _ h => h))
  have HRc := hide (hkw3.blk HB2.out (fun h => h))
  have HBp3 := hide (hkw3.blk HBp.out (fun h => h))
  have HP3 := hide (HP.out.kept HK3.out (fun _ _ h => h))
  have HD3 := hide (H0.out.dev.kept HK3.out (fun _ _ h => h))
  have Hbm := hide hbm
  have Hsz : Hid (w1.heap.size = w.heap.size + 1 ∧ w2.heap.size = w.heap.size + 2 ∧ w3.heap.size = w.heap.size + 3) := hide ⟨by omega, by omega, by omega⟩
  clear hkw3 hbm HW3 hsz1 hsz2 hsz3
  have hXd : ∀ k, footM pd vd k → X k := fun k hk => (HX.out k).2 (.inr (.inr hk))
  refine rangeF (gf := 55) (lb := #[.pointer (some ⟨w2.heap.size, 0, none⟩)]) rfl (enters_of Try.func55 (by kernel_rfl) rfl) (encs := enc1P) (xs := l.dirty) (X := footM pd vd) (fun W hk => all1_atP W _ pd vd l.dirty (hk.blk Hbm.out (fun h => h)) (HP3.out.dm.kept hk (fun h => h) (fun _ _ h => h)) hl) (fun _ => rfl)
    (SvI w3 w1.heap.size db nd l.fr s F true) (SvI w3 w1.heap.size db nd l.fr s F false) (SvI.foot _ _ _ _ _ _ _ _ _ (Nat.le_refl _)) (fun pre F' => SvI.own _ _ _ _ _ _ _ _ _ (Nat.le_refl _) pre F') (fun k => k = w1.heap.size ∨ F k)
    (fun k hk => hk.elim (fun h => by have := Hsz.out; omega) (fun h => by have := HFlt.out k h; have := Hsz.out; omega))
    (fun k hk => ⟨by have := HXlt.out k (hXd k hk); have := Hsz.out; omega, fun h => h.elim (fun h => by have := HXlt.out k (hXd k hk); have := Hsz.out; omega) (fun h => H0.out.ap k (hXd k hk) h)⟩)
    ⟨F, rfl, HD3.out, fun _ => Iff.rfl, HRc.out, Kept.refl _ _, fun _ h => .inl h⟩
    (fun x a' W' => ∃ Bx, Blk W' Bx (BV x.2.B) 79 ∧ a' = { tmps := #[.pointer (some ⟨b, 0, none⟩), .pointer (some ⟨w.heap.size, 0, none⟩), .pointer (some ⟨w1.heap.size, 0, none⟩), .int .i64 x.1, .pointer (some ⟨Bx, 0, none⟩), undef, undef, .pointer (some ⟨b, 0, none⟩), .bool false, .pointer (some ⟨b, 0, none⟩), .pointer (some ⟨b, 0, none⟩), .pointer (some ⟨b, 4, none⟩), .pointer (some ⟨pd, 0, none⟩), .func (.func 55) #[] #[.pointer (some ⟨w2.heap.size, 0, none⟩)], .int .i64 x.1, .agg (BV x.2.B).toArray, undef, undef, undef, undef, undef, undef, undef, undef, undef, undef, undef, undef, undef, undef, undef, undef, undef, undef, undef, undef, undef, undef, undef, undef, undef, undef, undef], defers := [] })
    ?ax ?assign ?body ?done ?stop
  case ax =>
    rintro x a' _ A B row ⟨Bx, hx, he⟩ hg hr
    refine ⟨Bx, (Kept.of_grown hg).blk hx (fun e => ?_), he⟩
    obtain ⟨_, o, h3, h4⟩ := hr Bx e
    unfold Blk at hx
    rw [hx] at h3
    cases h3
    simp [Obj.isCells] at h4
  case assign =>
    intro lp n' pre x F1 A K hI hK
    have HKK := hide hK
    clear hK
    obtain ⟨kx, x⟩ := x
    have hx1 := BV_one x.B
    have hxl := BVk_length x
    obtain ⟨M, hM⟩ : ∃ M, M = BV x.B := ⟨_, rfl⟩
    simp only [enc1P]
    rw [← hM] at HKK hx1 hxl ⊢
    have HX1 := hide hx1
    have HXL := hide hxl
    clear hM hx1 hxl
    gi_wp2_with (first
      | ((with_reducible refine ai_alloc Hi0.out Hz0.out ?_); intro w4 hw4 hk4 hz4; have Hz4 := hide hz4; clear hz4)
      | (with_reducible refine stopi_store 79 ?_))
    refine hide ?_
    refine ai_store (M := M) Try.agg79 rfl rfl HXL.out HX1.out hw4 (by rw [zc79]; omega) ?_
    intro w5 hw5 hk5 hz5
    have Hz5 := hide hz5
    clear hz5
    gi_wp2
    rw [put_whole _ _ (by rw [zc79, HXL.out])] at hw5
    exact HKK.out _ w5 (hk4.trans hk5 (fun i hi h => by omega)) ⟨_, hw5, rfl⟩
  case body =>
    rintro lp n' pre x post F1 a' A hxs ⟨Fd, hg, hdv, hF1, hrc, hkA, hFd⟩ ⟨Bx, hBx, rfl⟩
    have h0 : (runW l.fr pre s).2 = 0 := by simpa using hg
    rw [h0] at hrc
    have hxin := HIn.out x (by rw [hxs]; simp)
    obtain ⟨m, hm⟩ : ∃ m : Nat, x.1 = m := ⟨x.1.toNat, by omega⟩
    have hmn : m < l.n := by omega
    have hbnd := runW_bound l.fr pre s
    have hplen : pre.length ≤ 1000000 := by
      have := congrArg List.length hxs
      simp at this
      omega
    have hnB : ¬ Fd Bx := DevAt_nb hdv hBx (by decide) (by decide) (by decide)
    have hnR : ¬ Fd w1.heap.size := DevAt_nb hdv hrc (by decide) (by decide) (by decide)
    have hXF : ∀ k, X k → ¬ (k = w1.heap.size ∨ F k) := fun k hk h => h.elim (fun h => by have := HXlt.out k hk; have := Hsz.out; omega) (fun h => H0.out.ap k hk h)
    have hpA := (HP3.out.kept hkA (fun k hk => hXF k ((HX.out k).2 hk))).blk
    have hbp := hkA.blk HBp3.out (fun h => h.elim (fun h => by have := Hsz.out; omega) (fun h => by have := HFlt.out _ h; omega))
    have hstep := runW_append l.fr pre [x] s
    rw [if_pos h0, runW_one] at hstep
    obtain ⟨sp, hsp⟩ : ∃ sp, sp = (runW l.fr pre s).1 := ⟨_, rfl⟩
    rw [← hsp] at hdv hbnd hstep
    have HSTEP := hide hstep
    have HPA := hide hpA
    have HBPA := hide hbp
    have HRCA := hide hrc
    have HNB := hide hnB
    have HNR := hide hnR
    have HBX := hide hBx
    have HDV := hide hdv
    have HFd := hide hFd
    have HF1 := hide hF1
    have HKA := hide hkA
    have hcc : wErr sp = 0 ∨ wErr sp = 10 := wErr_cases sp
    obtain ⟨ec, hec⟩ : ∃ ec, ec = wErr sp := ⟨_, rfl⟩
    have HEC := hide hec
    rw [← hec] at hcc
    have HWR := hide (fun (w0 : World) (hk : Kept (fun _ => False) A w0) => dwrite_at w0 db nd sp Fd (HDV.out.kept hk (fun _ _ h => h)) (l.fr + m) 1 64 (some ⟨Bx, 0, none⟩) x.2.B (by rw [x.2.len]) x.2.lt (by omega) (fun _ => ⟨Bx, 0, rfl, by
        have h := (hk.blk HBX.out (fun h => h)).cells 0 64
        rwa [List.drop_zero, List.take_of_length_le (by rw [BVk_length]; omega)] at h, HNB.out⟩) (by omega) (by omega) (by omega) (by omega))
    rw [← hec] at HWR
    clear hg h0 hxin hbnd hXF hpA hbp hstep hrc hdv hBx hF1 hkA hFd hec hnB hnR hxs
    refine hold_frame (p := fun fr => Code.wpIn (Fence.wide.inRound lp) n' Try.prog _ _ fr _) ?_
    intro fr hfr
    have e1 : fr.eval (.tmp 1) = .pointer (some ⟨w.heap.size, 0, none⟩) := by rw [hfr.out]; rfl
    have e3 : fr.eval (.tmp 3) = .int .i64 (m : Nat) := by rw [hfr.out, ← hm]; rfl
    have e4 : fr.eval (.tmp 4) = .pointer (some ⟨Bx, 0, none⟩) := by rw [hfr.out]; rfl
    have hts : fr.tmps.size = 43 := by rw [hfr.out]; rfl
    gi_wp2_with fail
    refine region_Sin 99 Try.mixed (fun ⟨_, _, h⟩ => h) (by kernel_rfl) ?_
    intro w0 hkw hheap
    have HP0 := hide (hkw.blk HPA.out (fun h => h))
    have HB0 := hide (hkw.blk HBPA.out (fun h => h))
    have hS0 : Kept (fun _ => False) w0 w0 := Kept.refl (fun _ => False) w0
    have hS : Kept Fd w0 w0 := Kept.refl _ w0
    have hnb : ¬ Fd b := DevAt_nb HDV.out HPA.out (by decide) (by decide) (by decide)
    have hnp : ¬ Fd w.heap.size := DevAt_nb HDV.out HBPA.out (by decide) (by decide) (by decide)
    refine ⟨Kept Fd w0, ?_⟩
    refine tkS 0 16 (v := .pointer (some ⟨b, 0, none⟩)) hS rfl rfl (by kernel_rfl) (by kernel_rfl) (by kernel_rfl) (by kernel_rfl) (wanted_none rfl) (fun _ _ _ h => h) (fun U hU => r_ldP28 (by simp [eval_put_ne, eval_put_eq, size_put, hts, e1]) ((hU.blk HB0.out hnp).cell 0)) ?_
    refine tkS 1 17 (v := .pointer (some ⟨b, 0, none⟩)) hS rfl rfl (by kernel_rfl) (by kernel_rfl) (by kernel_rfl) (by kernel_rfl) (wanted_none rfl) (fun _ _ _ h => h) (fun U hU => r_nilP (by simp [eval_put_ne, eval_put_eq, size_put, hts])) ?_
    refine tkS 2 18 (v := .pointer (some ⟨b, 0, none⟩)) hS rfl rfl (by kernel_rfl) (by kernel_rfl) (by kernel_rfl) (by kernel_rfl) (wanted_none rfl) (fun _ _ _ h => h) (fun U hU => r_fP0 (by simp [eval_put_ne, eval_put_eq, size_put, hts])) ?_
    refine tkS 3 19 (v := .pointer (some ⟨db, 0, none⟩)) hS rfl rfl (by kernel_rfl) (by kernel_rfl) (by kernel_rfl) (by kernel_rfl) (wanted_none rfl) (fun _ _ _ h => h) (fun U hU => r_ldP24 (by simp [eval_put_ne, eval_put_eq, size_put, hts]) ((hU.blk HP0.out hnb).cell 0)) ?_
    refine tkS 4 20 (v := .pointer (some ⟨b, 0, none⟩)) hS rfl rfl (by kernel_rfl) (by kernel_rfl) (by kernel_rfl) (by kernel_rfl) (wanted_none rfl) (fun _ _ _ h => h) (fun U hU => r_ldP28 (by simp [eval_put_ne, eval_put_eq, size_put, hts, e1]) ((hU.blk HB0.out hnp).cell 0)) ?_
    refine tkS 5 21 (v := .pointer (some ⟨b, 0, none⟩)) hS rfl rfl (by kernel_rfl) (by kernel_rfl) (by kernel_rfl) (by kernel_rfl) (wanted_none rfl) (fun _ _ _ h => h) (fun U hU => r_nilP (by simp [eval_put_ne, eval_put_eq, size_put, hts])) ?_
    refine tkS 6 22 (v := .pointer (some ⟨b, 1, none⟩)) hS rfl rfl (by kernel_rfl) (by kernel_rfl) (by kernel_rfl) (by kernel_rfl) (wanted_none rfl) (fun _ _ _ h => h) (fun U hU => r_fP1 (by simp [eval_put_ne, eval_put_eq, size_put, hts])) ?_
    refine tkS 7 23 (v := .int .i64 l.fr) hS rfl rfl (by kernel_rfl) (by kernel_rfl) (by kernel_rfl) (by kernel_rfl) (wanted_none rfl) (fun _ _ _ h => h) (fun U hU => r_ldP3 (by simp [eval_put_ne, eval_put_eq, size_put, hts]) ((hU.blk HP0.out hnb).cell 1)) ?_
    refine tkS 8 24 (v := .int .i64 (m : Nat)) hS rfl rfl (by kernel_rfl) (by kernel_rfl) (by kernel_rfl) (by kernel_rfl) (wanted_none rfl) (fun _ _ _ h => h) (fun U hU => r_move (by simp [eval_put_ne, eval_put_eq, size_put, hts, e3])) ?_
    refine tkS 9 25 (v := .int .i64 ((l.fr + m : Nat) : Int)) hS rfl rfl (by kernel_rfl) (by kernel_rfl) (by kernel_rfl) (by kernel_rfl) (wanted_none rfl) (fun _ _ _ h => h) (fun U hU => r_addP (i := l.fr) (j := m) (by simp [eval_put_ne, eval_put_eq, size_put, hts]) (by simp [eval_put_ne, eval_put_eq, size_put, hts]) (by omega)) ?_
    refine tkS 10 26 (v := .slice (some ⟨Bx, 0, none⟩) 64 64) hS rfl rfl (by kernel_rfl) (by kernel_rfl) (by kernel_rfl) (by kernel_rfl) (wanted_none rfl) (fun _ _ _ h => h) (fun U hU => run_slice79 (by simp [eval_put_ne, eval_put_eq, size_put, hts, e4])) ?_
    refine oneCS 11 27 (by kernel_rfl) rfl rfl (wanted_none rfl) (r_call3 Try.func36 (by kernel_rfl) rfl rfl (by simp [eval_put_ne, eval_put_eq, size_put, hts]) (by simp [eval_put_ne, eval_put_eq, size_put, hts]) (by simp [eval_put_ne, eval_put_eq, size_put, hts])) (HWR.out w0 hkw) ?_
    rintro e w4 ⟨rfl, hk4, F4, hd4, hF4⟩
    refine ⟨_, rfl, hk4, ?_⟩
    refine tkS 12 5 (v := .int .i64 ec) hk4 rfl rfl (by kernel_rfl) (by kernel_rfl) (by kernel_rfl) (by kernel_rfl) (wanted_none rfl) (fun _ _ _ h => h) (fun U hU => r_assign (by simp [eval_put_ne, eval_put_eq, size_put, hts])) ?_
    refine doneS (by kernel_rfl) ?_
    have hrc4 : Blk w4 w1.heap.size [.int .i64 0] 25 := hk4.blk (hkw.blk HRCA.out (fun h => h)) HNR.out
    have HRC4 := hide hrc4
    have HD4 := hide hd4
    have HF4 := hide hF4
    have HK4 := hide ((hkw.mono (T := Fd) (fun _ _ h => h.elim)).trans hk4 (fun _ _ h => h))
    have HKW := hide hkw.size
    clear hk4 hd4 hF4 hS hS0 hkw hheap hrc4 hnb hnp
    rw [hfr.out]
    clear hfr e1 e3 e4 hts
    simp only [put_lit, put_none, List.set_cons_succ, List.set_cons_zero]
    have HFIN : Hid (∀ w5, Kept (fun k => k = w1.heap.size) w4 w5 → Blk w5 w1.heap.size [.int .i64 ec] 25 → ∀ g, decide (ec = 0) = g → SvI w3 w1.heap.size db nd l.fr s F g (pre ++ [x]) (fun k => k = w1.heap.size ∨ F4 k) w5 ∧ Kept F1 A w5 ∧ ∀ k, (k = w1.heap.size ∨ F4 k) → F1 k ∨ A.heap.size ≤ k) := hide (by
      intro w5 hk5 hb5 g hg
      have hm2 : x.1.toNat = m := by omega
      have hst := HSTEP.out
      rw [hm2, ← HEC.out] at hst
      have hF41 : ∀ k, F4 k → F1 k ∨ A.heap.size ≤ k := fun k hk => (HF4.out k hk).elim (fun h => .inl ((HF1.out k).2 (.inr h))) (fun h => .inr (by have := HKW.out; omega))
      have hk41 : Kept F1 A w4 := HK4.out.mono (fun k _ h => (HF1.out k).2 (.inr h))
      have hk51 : Kept F1 A w5 := hk41.trans hk5 (fun k _ h => (HF1.out k).2 (.inl h))
      refine ⟨⟨F4, ?_, ?_, fun _ => Iff.rfl, ?_, ?_, ?_⟩, hk51, ?_⟩
      · rw [hst]; exact hg
      · rw [hst]
        exact HD4.out.kept hk5 (fun k hk e => by subst e; exact DevAt_nb HD4.out HRC4.out (by decide) (by decide) (by decide) hk)
      · rw [hst]; exact hb5
      · refine HKA.out.trans hk51 (fun k hk h => ?_)
        rcases (HF1.out k).1 h with h | h
        · exact .inl h
        · exact (HFd.out k h).elim .inr (fun h => by omega)
      · intro k hk
        rcases HF4.out k hk with h | h
        · exact HFd.out k h
        · have := HKA.out.size; have := HKW.out; exact .inr (by omega)
      · rintro k (rfl | hk)
        · exact .inl ((HF1.out _).2 (.inl rfl))
        · exact hF41 k hk)
    clear HSTEP HEC
    rcases hcc with rfl | rfl
    · gi_wp2
      obtain ⟨h1, h2, h3⟩ := HFIN.out w4 (Kept.refl _ _) HRC4.out true (by simp)
      exact ⟨_, h1, h2, h3⟩
    · gi_wp2_with (with_reducible refine stopi_store 25 ?_)
      refine hide ?_
      refine ai_store1 (v := .int .i64 10) Hi25.out Hs25.out rfl rfl rfl rfl HRC4.out (by simp) ?_
      intro w5 hw5 hk5 hz5
      have HFIN5 := hide (HFIN.out w5 hk5 hw5 false (by simp))
      clear hw5 hk5 hz5
      try simp only [put_lit, put_none, List.set_cons_succ, List.set_cons_zero]
      gi_wp2
      obtain ⟨h1, h2, h3⟩ := HFIN5.out
      exact ⟨_, h1, h2, h3⟩
  case done =>
    rintro D F1 W hD ⟨Fd, hg, hdv, hF1, hrc, hkA, hFd⟩ hK
    have h0 : (runW l.fr l.dirty s).2 = 0 := by simpa using hg
    rw [h0] at hrc
    have hbnd := runW_bound l.fr l.dirty s
    have hsd : l.saveD s = (runW l.fr l.dirty s).1.flushed ∧ l.saveE s = (runW l.fr l.dirty s).1.errF := by
      unfold PL.saveD PL.saveE
      rw [if_pos h0, if_pos h0]
      exact ⟨rfl, rfl⟩
    obtain ⟨sp, hsp⟩ : ∃ sp, sp = (runW l.fr l.dirty s).1 := ⟨_, rfl⟩
    rw [← hsp] at hdv hbnd hsd
    have hsp1 : PL.saveP l s = if sp.errF = 0 then { l with dirty := [] } else l := by unfold PL.saveP; rw [hsd.2]
    have hnR : ¬ Fd w1.heap.size := DevAt_nb hdv hrc (by decide) (by decide) (by decide)
    have hXF : ∀ k, X k → ¬ (k = w1.heap.size ∨ F k) := fun k hk h => h.elim (fun h => by have := HXlt.out k hk; have := Hsz.out; omega) (fun h => H0.out.ap k hk h)
    have hpA := HP3.out.kept hkA (fun k hk => hXF k ((HX.out k).2 hk))
    have hXFd : ∀ k, X k → ¬ Fd k := fun k hk h => (hFd k h).elim (fun h => H0.out.ap k hk h) (fun h => by have := HXlt.out k hk; have := Hsz.out; omega)
    have hbp := hkA.blk HBp3.out (fun h => h.elim (fun h => by have := Hsz.out; omega) (fun h => by have := HFlt.out _ h; omega))
    have hnp : ¬ Fd w.heap.size := DevAt_nb hdv hbp (by decide) (by decide) (by decide)
    have hnD : ¬ Fd D := fun h => (DevAt_cells hdv D h).not_loop hK rfl
    have c0 : W.cell? ⟨w.heap.size, 0, none⟩ = some (.pointer (some ⟨b, 0, none⟩)) := hbp.cell 0
    have c1 : W.cell? ⟨b, 0, none⟩ = some (.pointer (some ⟨db, 0, none⟩)) := hpA.blk.cell 0
    have HFL := hide (Go.Proofs.Ytnlcmgdeohbmoaa.D.flush_at W db nd sp Fd hdv (by omega))
    have hDlt : D < W.heap.size := (Array.getElem?_eq_some_iff.1 hK).1
    have HSD := hide hsd
    have HSP := hide hsp1
    have HPA := hide hpA
    have HBP := hide hbp
    have HRC := hide hrc
    have HNR := hide hnR
    have HNP := hide hnp
    have HND := hide hnD
    have HXFd := hide hXFd
    have HFd := hide hFd
    have HKW := hide (HK3.out.mono (T := fun k => F k ∨ X k) (fun _ _ h => h.elim) |>.trans hkA (fun k hk h => h.elim (fun h => by have := Hsz.out; omega) (fun h => .inl h)))
    have HSW := hide hkA.size
    have HDK := hide hK
    have HDlt := hide hDlt
    clear hg h0 hsd hsp1 hXF hpA hbp hrc hnR hnp hnD hXFd hF1 hkA hFd hK hDlt hbnd
    rcases errF_cases sp with he | he
    · rw [he] at HFL
      have HE := hide he
      clear he
      go_wp2_with (go_at_call 37; refine HFL.out.mono ?_; rintro e w4 ⟨rfl, hk4, F4, hd4, hF4⟩; have HK4 := hide hk4; have HD4 := hide hd4; have HF4 := hide hF4; clear hk4 hd4 hF4 c0 c1)
      have HP4 := hide (HPA.out.kept HK4.out (fun k hk => HXFd.out k ((HX.out k).2 hk)))
      have HB4 := hide (HK4.out.blk HBP.out HNP.out)
      have HR4 := hide (HK4.out.blk HRC.out HNR.out)
      have HDK4 : Hid (w4.heap[D]? = some (.deferred (some []))) := hide ((HK4.out.block D HDlt.out HND.out).trans HDK.out)
      refine hold_frame (p := fun fr => Code.wp Try.prog _ _ fr _) ?_
      intro fr hfr
      have e1 : fr.eval (.tmp 1) = .pointer (some ⟨w.heap.size, 0, none⟩) := by rw [hfr.out]; rfl
      have hts : fr.tmps.size = 43 := by rw [hfr.out]; rfl
      refine region_S0 4 Try.mixed ?_
      intro w0 hkw hheap
      have HB0 := hide (hkw.blk HB4.out (fun h => h))
      have HP0 := hide (HP4.out.kept hkw (fun _ _ h => h))
      have hS : Kept (fun _ => False) w0 w0 := Kept.refl (fun _ => False) w0
      refine ⟨Kept (fun _ => False) w0, ?_⟩
      refine twoS 0 1 (by kernel_rfl) ?_ ?_
      · refine stepVS 0 39 (v := .pointer (some ⟨b, 0, none⟩)) rfl rfl (wanted_none rfl) (r_ldP28 (by simp [eval_put_ne, eval_put_eq, size_put, hts, e1]) (HB0.out.cell 0)) (fun _ => hS) ?_
        refine oneCS 1 40 (by kernel_rfl) rfl rfl (wanted_none rfl) (r_call0 Try.func32 (by kernel_rfl) rfl rfl) (new_atP w0) ?_
        rintro e w5 ⟨rfl, hm5, hk5⟩
        refine ⟨_, rfl, hk5, ?_⟩
        refine oneVS 2 41 (v := .pointer (some ⟨b, 0, none⟩)) (by kernel_rfl) rfl rfl (wanted_none rfl) (r_nilP (by simp [eval_put_ne, eval_put_eq, size_put, hts])) hk5 ?_
        refine oneVS 3 42 (v := .pointer (some ⟨b, 4, none⟩)) (by kernel_rfl) rfl rfl (wanted_none rfl) (r_fP4 (by simp [eval_put_ne, eval_put_eq, size_put, hts])) hk5 ?_
        have hb5 := hk5.blk HP0.out.blk (fun h => h)
        refine lastS (by kernel_rfl) rfl (wanted_none rfl) (r_stP74 (a := some ⟨w0.heap.size, 0, none⟩) (by simp [eval_put_ne, eval_put_eq, size_put, hts]) (by simp [eval_put_ne, eval_put_eq, size_put, hts]) (hb5.cell 4) (hb5.frozen 4)) (by kernel_rfl) ?_
        have hb6 := hb5.setCell 4 (.pointer (some ⟨w0.heap.size, 0, none⟩))
        have hk6 := Kept.setCell (S := fun k => k = b) w5 ⟨b, 4, none⟩ (.pointer (some ⟨w0.heap.size, 0, none⟩)) rfl
        generalize w5.setCell ⟨b, 4, none⟩ (.pointer (some ⟨w0.heap.size, 0, none⟩)) = w6 at hb6 hk6 ⊢
        have hbX : X b := (HX.out b).2 (.inl rfl)
        have hn1 : (Value.slice none 0 0).ownBlock = none := rfl
        have hb0w : b < w0.heap.size := HP0.out.blk.lt
        have hm6 : MapP w6 w0.heap.size (.slice none 0 0) [] := hm5.kept hk6 (fun e => by omega) (fun k hk => by rw [hn1] at hk; cases hk)
        have hh6 : MapP w6 ph vh l.hand := (HP0.out.hm.kept hk5 (fun h => h) (fun _ _ h => h)).kept hk6 (fun e => HP0.out.nb.1 (.inl e.symm)) (fun k hk e => HP0.out.nb.1 (.inr (e ▸ hk)))
        have hpl : PoolIs w6 b db { l with dirty := [] } ph vh w0.heap.size (.slice none 0 0) := ⟨hb6, hh6, hm6, fun k h1 h2 => by
          rcases h2 with rfl | h2
          · have := HP0.out.hm.lt h1; omega
          · rw [hn1] at h2; cases h2⟩
        have hk46 : Kept (fun k => k = b) w4 w6 := ((hkw.mono (T := fun k => k = b) (fun _ _ h => h.elim)).trans hk5 (fun _ _ h => h.elim)).trans hk6 (fun _ _ h => h)
        have hnb4 : ¬ F4 b := DevAt_nb HD4.out HP4.out.blk (by decide) (by decide) (by decide)
        have hd6 := HD4.out.kept hk46 (fun k hk e => hnb4 (e ▸ hk))
        have hr6 := hk46.blk HR4.out (fun e => by have := HXlt.out b hbX; have := Hsz.out; omega)
        have hDb : D ≠ b := fun e => by have := HXlt.out b hbX; have := Hsz.out; omega
        have hdk6 : w6.heap[D]? = some (.deferred (some [])) := (hk46.block D (by have := HK4.out.size; have := HDlt.out; omega) hDb).trans HDK4.out
        have s46 := hk46.size
        have s40 := hkw.size
        have HPL := hide hpl
        have HK46 := hide hk46
        have HD6 := hide hd6
        have HR6 := hide hr6
        have HDK6 := hide hdk6
        have HS46 := hide (And.intro s46 s40)
        clear hb5 hb6 hk5 hk6 hm5 hm6 hh6 hpl hk46 hd6 hr6 hdk6 hbX hb0w hDb hS hkw hheap s46 s40 hnb4
        rw [hfr.out]
        clear hfr e1 hts
        simp only [put_lit, put_none, List.set_cons_succ, List.set_cons_zero]
        go_wp2_with ((with_reducible refine aw_store1 (v := .int .i64 0) Hi25.out Hs25.out rfl rfl rfl rfl HR6.out (by simp) ?_); intro w7 hw7 hk7 hz7; have HW7 := hide hw7; have HK7 := hide hk7; clear hw7 hk7 hz7)
        refine ⟨by simp, .inl ⟨_, _, rfl, run_takeDeferred ((HK7.out.block D (by have := HK4.out.size; have := HDlt.out; have := HS46.out; omega) (by have := Hsz.out; omega)).trans HDK6.out), ?_⟩⟩
        have hkD : Kept (fun k => k = D) w7 (w7.putObj D (.deferred none)) := Kept.putObj _ _ _
        refine ⟨_, results_cellE rfl rfl (hkD.blk HW7.out (by have := Hsz.out; omega)), by rw [HSD.out.2, HE.out], ?_⟩
        have e1 : l.saveP s = { l with dirty := [] } := by rw [HSP.out, if_pos HE.out]
        rw [HSD.out.1, e1]
        have hk67 : Kept (fun k => k = w1.heap.size ∨ k = D) w6 (w7.putObj D (.deferred none)) := (HK7.out.mono (fun _ _ h => .inl h)).trans hkD (fun _ _ h => .inr h)
        have hnr4 : ∀ k, F4 k → ¬ (k = w1.heap.size ∨ k = D) := fun k hk h => by
          rcases h with rfl | rfl
          · exact DevAt_nb HD6.out HR6.out (by decide) (by decide) (by decide) hk
          · exact (DevAt_cells HD6.out k hk).not_loop HDK6.out rfl
        have hpx : ∀ k, footP b ph vh w0.heap.size (.slice none 0 0) k → X k ∨ k = w0.heap.size := fun k hk => by
          rcases hk with h | h | h
          · exact .inl ((HX.out k).2 (.inl h))
          · exact .inl ((HX.out k).2 (.inr (.inl h)))
          · rcases h with h | h
            · exact .inr h
            · cases h
        have hw0s : W.heap.size ≤ w4.heap.size := HK4.out.size
        have hs3 := HSW.out
        have hF4x : ∀ k, F4 k → F k ∨ w3.heap.size ≤ k := fun k hk => (HF4.out k hk).elim (fun h => HFd.out k h) (fun h => .inr (by omega))
        refine ⟨((HKW.out.trans HK4.out (fun k hk h => (HFd.out k h).elim .inl (fun h => by have := Hsz.out; omega))).trans HK46.out (fun k hk h => .inr ((HX.out k).2 (.inl h)))).trans hk67 (fun k hk h => h.elim (fun h => by have := Hsz.out; omega) (fun h => by have := Hsz.out; omega)), F4, footP b ph vh w0.heap.size (.slice none 0 0), ⟨HD6.out.kept hk67 hnr4, ⟨ph, vh, w0.heap.size, _, HPL.out.kept hk67 (fun k hk h => ?_), fun _ => Iff.rfl⟩, fun k hk hf => ?_, hfit⟩, fun k hk => ?_⟩
        · rcases h with rfl | rfl
          · rcases hpx _ hk with h | h
            · have := HXlt.out _ h; have := Hsz.out; omega
            · have := HS46.out; have := Hsz.out; omega
          · rcases hpx _ hk with h | h
            · have := HXlt.out _ h; have := Hsz.out; omega
            · have := HS46.out; have := HDlt.out; omega
        · rcases hpx _ hk with h | h
          · rcases hF4x k hf with h2 | h2
            · exact H0.out.ap k h h2
            · have := HXlt.out _ h; have := Hsz.out; omega
          · have := HD4.out.lt k hf
            have := HS46.out
            omega
        · rcases hk with h | h
          · exact (hF4x k h).elim (fun h => .inl (.inl h)) (fun h => .inr (by have := Hsz.out; omega))
          · exact (hpx k h).elim (fun h => .inl (.inr h)) (fun h => .inr (by have := HS46.out; have := Hsz.out; omega))
      · refine stepCS 1 40 rfl rfl (wanted_none rfl) (r_call0 Try.func32 (by kernel_rfl) rfl rfl) (new_atP w0) ?_
        rintro e w5 ⟨rfl, hm5, hk5⟩
        refine ⟨_, rfl, hk5, ?_⟩
        refine oneVS 0 39 (v := .pointer (some ⟨b, 0, none⟩)) (by kernel_rfl) rfl rfl (wanted_none rfl) (r_ldP28 (by simp [eval_put_ne, eval_put_eq, size_put, hts, e1]) ((hk5.blk HB0.out (fun h => h)).cell 0)) hk5 ?_
        refine oneVS 2 41 (v := .pointer (some ⟨b, 0, none⟩)) (by kernel_rfl) rfl rfl (wanted_none rfl) (r_nilP (by simp [eval_put_ne, eval_put_eq, size_put, hts])) hk5 ?_
        refine oneVS 3 42 (v := .pointer (some ⟨b, 4, none⟩)) (by kernel_rfl) rfl rfl (wanted_none rfl) (r_fP4 (by simp [eval_put_ne, eval_put_eq, size_put, hts])) hk5 ?_
        have hb5 := hk5.blk HP0.out.blk (fun h => h)
        refine lastS (by kernel_rfl) rfl (wanted_none rfl) (r_stP74 (a := some ⟨w0.heap.size, 0, none⟩) (by simp [eval_put_ne, eval_put_eq, size_put, hts]) (by simp [eval_put_ne, eval_put_eq, size_put, hts]) (hb5.cell 4) (hb5.frozen 4)) (by kernel_rfl) ?_
        have hb6 := hb5.setCell 4 (.pointer (some ⟨w0.heap.size, 0, none⟩))
        have hk6 := Kept.setCell (S := fun k => k = b) w5 ⟨b, 4, none⟩ (.pointer (some ⟨w0.heap.size, 0, none⟩)) rfl
        generalize w5.setCell ⟨b, 4, none⟩ (.pointer (some ⟨w0.heap.size, 0, none⟩)) = w6 at hb6 hk6 ⊢
        have hbX : X b := (HX.out b).2 (.inl rfl)
        have hn1 : (Value.slice none 0 0).ownBlock = none := rfl
        have hb0w : b < w0.heap.size := HP0.out.blk.lt
        have hm6 : MapP w6 w0.heap.size (.slice none 0 0) [] := hm5.kept hk6 (fun e => by omega) (fun k hk => by rw [hn1] at hk; cases hk)
        have hh6 : MapP w6 ph vh l.hand := (HP0.out.hm.kept hk5 (fun h => h) (fun _ _ h => h)).kept hk6 (fun e => HP0.out.nb.1 (.inl e.symm)) (fun k hk e => HP0.out.nb.1 (.inr (e ▸ hk)))
        have hpl : PoolIs w6 b db { l with dirty := [] } ph vh w0.heap.size (.slice none 0 0) := ⟨hb6, hh6, hm6, fun k h1 h2 => by
          rcases h2 with rfl | h2
          · have := HP0.out.hm.lt h1; omega
          · rw [hn1] at h2; cases h2⟩
        have hk46 : Kept (fun k => k = b) w4 w6 := ((hkw.mono (T := fun k => k = b) (fun _ _ h => h.elim)).trans hk5 (fun _ _ h => h.elim)).trans hk6 (fun _ _ h => h)
        have hnb4 : ¬ F4 b := DevAt_nb HD4.out HP4.out.blk (by decide) (by decide) (by decide)
        have hd6 := HD4.out.kept hk46 (fun k hk e => hnb4 (e ▸ hk))
        have hr6 := hk46.blk HR4.out (fun e => by have := HXlt.out b hbX; have := Hsz.out; omega)
        have hDb : D ≠ b := fun e => by have := HXlt.out b hbX; have := Hsz.out; omega
        have hdk6 : w6.heap[D]? = some (.deferred (some [])) := (hk46.block D (by have := HK4.out.size; have := HDlt.out; omega) hDb).trans HDK4.out
        have s46 := hk46.size
        have s40 := hkw.size
        have HPL := hide hpl
        have HK46 := hide hk46
        have HD6 := hide hd6
        have HR6 := hide hr6
        have HDK6 := hide hdk6
        have HS46 := hide (And.intro s46 s40)
        clear hb5 hb6 hk5 hk6 hm5 hm6 hh6 hpl hk46 hd6 hr6 hdk6 hbX hb0w hDb hS hkw hheap s46 s40 hnb4
        rw [hfr.out]
        clear hfr e1 hts
        simp only [put_lit, put_none, List.set_cons_succ, List.set_cons_zero]
        go_wp2_with ((with_reducible refine aw_store1 (v := .int .i64 0) Hi25.out Hs25.out rfl rfl rfl rfl HR6.out (by simp) ?_); intro w7 hw7 hk7 hz7; have HW7 := hide hw7; have HK7 := hide hk7; clear hw7 hk7 hz7)
        refine ⟨by simp, .inl ⟨_, _, rfl, run_takeDeferred ((HK7.out.block D (by have := HK4.out.size; have := HDlt.out; have := HS46.out; omega) (by have := Hsz.out; omega)).trans HDK6.out), ?_⟩⟩
        have hkD : Kept (fun k => k = D) w7 (w7.putObj D (.deferred none)) := Kept.putObj _ _ _
        refine ⟨_, results_cellE rfl rfl (hkD.blk HW7.out (by have := Hsz.out; omega)), by rw [HSD.out.2, HE.out], ?_⟩
        have e1 : l.saveP s = { l with dirty := [] } := by rw [HSP.out, if_pos HE.out]
        rw [HSD.out.1, e1]
        have hk67 : Kept (fun k => k = w1.heap.size ∨ k = D) w6 (w7.putObj D (.deferred none)) := (HK7.out.mono (fun _ _ h => .inl h)).trans hkD (fun _ _ h => .inr h)
        have hnr4 : ∀ k, F4 k → ¬ (k = w1.heap.size ∨ k = D) := fun k hk h => by
          rcases h with rfl | rfl
          · exact DevAt_nb HD6.out HR6.out (by decide) (by decide) (by decide) hk
          · exact (DevAt_cells HD6.out k hk).not_loop HDK6.out rfl
        have hpx : ∀ k, footP b ph vh w0.heap.size (.slice none 0 0) k → X k ∨ k = w0.heap.size := fun k hk => by
          rcases hk with h | h | h
          · exact .inl ((HX.out k).2 (.inl h))
          · exact .inl ((HX.out k).2 (.inr (.inl h)))
          · rcases h with h | h
            · exact .inr h
            · cases h
        have hw0s : W.heap.size ≤ w4.heap.size := HK4.out.size
        have hs3 := HSW.out
        have hF4x : ∀ k, F4 k → F k ∨ w3.heap.size ≤ k := fun k hk => (HF4.out k hk).elim (fun h => HFd.out k h) (fun h => .inr (by omega))
        refine ⟨((HKW.out.trans HK4.out (fun k hk h => (HFd.out k h).elim .inl (fun h => by have := Hsz.out; omega))).trans HK46.out (fun k hk h => .inr ((HX.out k).2 (.inl h)))).trans hk67 (fun k hk h => h.elim (fun h => by have := Hsz.out; omega) (fun h => by have := Hsz.out; omega)), F4, footP b ph vh w0.heap.size (.slice none 0 0), ⟨HD6.out.kept hk67 hnr4, ⟨ph, vh, w0.heap.size, _, HPL.out.kept hk67 (fun k hk h => ?_), fun _ => Iff.rfl⟩, fun k hk hf => ?_, hfit⟩, fun k hk => ?_⟩
        · rcases h with rfl | rfl
          · rcases hpx _ hk with h | h
            · have := HXlt.out _ h; have := Hsz.out; omega
            · have := HS46.out; have := Hsz.out; omega
          · rcases hpx _ hk with h | h
            · have := HXlt.out _ h; have := Hsz.out; omega
            · have := HS46.out; have := HDlt.out; omega
        · rcases hpx _ hk with h | h
          · rcases hF4x k hf with h2 | h2
            · exact H0.out.ap k h h2
            · have := HXlt.out _ h; have := Hsz.out; omega
          · have := HD4.out.lt k hf
            have := HS46.out
            omega
        · rcases hk with h | h
          · exact (hF4x k h).elim (fun h => .inl (.inl h)) (fun h => .inr (by have := Hsz.out; omega))
          · exact (hpx k h).elim (fun h => .inl (.inr h)) (fun h => .inr (by have := HS46.out; have := Hsz.out; omega))
    · rw [he] at HFL
      have HE := hide he
      clear he
      go_wp2_with (first
        | (go_at_call 37; refine HFL.out.mono ?_; rintro e w4 ⟨rfl, hk4, F4, hd4, hF4⟩; have HK4 := hide hk4; have HD4 := hide hd4; have HF4 := hide hF4; have HR4 := hide (hk4.blk HRC.out HNR.out); clear hk4 hd4 hF4 c0 c1)
        | ((with_reducible refine aw_store1 (v := .int .i64 10) Hi25.out Hs25.out rfl rfl rfl rfl HR4.out (by simp) ?_); intro w7 hw7 hk7 hz7; have HW7 := hide hw7; have HK7 := hide hk7; clear hw7 hk7 hz7))
      have HP4 := hide (HPA.out.kept HK4.out (fun k hk => HXFd.out k ((HX.out k).2 hk)))
      have hDK4 : w4.heap[D]? = some (.deferred (some [])) := (HK4.out.block D HDlt.out HND.out).trans HDK.out
      have h4s := HK4.out.size
      have hdl := HDlt.out
      refine ⟨by simp, .inl ⟨_, _, rfl, run_takeDeferred ((HK7.out.block D (by omega) (by have := Hsz.out; omega)).trans hDK4), ?_⟩⟩
      have hkD : Kept (fun k => k = D) w7 (w7.putObj D (.deferred none)) := Kept.putObj _ _ _
      refine ⟨_, results_cellE rfl rfl (hkD.blk HW7.out (by have := Hsz.out; omega)), by rw [HSD.out.2, HE.out], ?_⟩
      have e1 : l.saveP s = l := by rw [HSP.out, if_neg (by rw [HE.out]; decide)]
      rw [HSD.out.1, e1]
      have hk67 : Kept (fun k => k = w1.heap.size ∨ k = D) w4 (w7.putObj D (.deferred none)) := (HK7.out.mono (fun _ _ h => .inl h)).trans hkD (fun _ _ h => .inr h)
      have hnr4 : ∀ k, F4 k → ¬ (k = w1.heap.size ∨ k = D) := fun k hk h => by
        rcases h with rfl | rfl
        · exact DevAt_nb HD4.out HR4.out (by decide) (by decide) (by decide) hk
        · exact (DevAt_cells HD4.out k hk).not_loop hDK4 rfl
      have hs3 := HSW.out
      have hF4x : ∀ k, F4 k → F k ∨ w3.heap.size ≤ k := fun k hk => (HF4.out k hk).elim (fun h => HFd.out k h) (fun h => .inr (by omega))
      refine ⟨(HKW.out.trans HK4.out (fun k hk h => (HFd.out k h).elim .inl (fun h => by have := Hsz.out; omega))).trans hk67 (fun k hk h => h.elim (fun h => by have := Hsz.out; omega) (fun h => by have := Hsz.out; omega)), F4, X, ⟨HD4.out.kept hk67 hnr4, ⟨ph, vh, pd, vd, HP4.out.kept hk67 (fun k hk h => ?_), HX.out⟩, fun k hk hf => ?_, hfit⟩, fun k hk => ?_⟩
      · have := HXlt.out _ ((HX.out k).2 hk)
        have := Hsz.out
        rcases h with h | h <;> omega
      · rcases hF4x k hf with h2 | h2
        · exact H0.out.ap k hk h2
        · have := HXlt.out _ hk; have := Hsz.out; omega
      · rcases hk with h | h
        · exact (hF4x k h).elim (fun h => .inl (.inl h)) (fun h => .inr (by have := Hsz.out; omega))
        · exact .inl (.inr h)
  case stop =>
    rintro D pre F1 W hD ⟨post, hpost⟩ hI hK
    have hI2 := ownU_put (SvI.own _ _ _ _ _ _ _ _ _ (Nat.le_refl _) pre F1) (.deferred none) hI (by omega) hK rfl
    have HI2 := hide hI2
    have HKK := hide hK
    have HPost := hide hpost
    clear hI hI2 hK hpost
    go_wp2
    refine ⟨by simp, .inl ⟨_, _, rfl, run_takeDeferred HKK.out, ?_⟩⟩
    obtain ⟨Fd, hg, hdv, hF1, hrc, hkA, hFd⟩ := HI2.out
    have hne : ¬ (runW l.fr pre s).2 = 0 := by simpa using hg
    have hall : runW l.fr l.dirty s = runW l.fr pre s := by
      rw [HPost.out, runW_append, if_neg hne]
    have hd1 : l.saveD s = (runW l.fr pre s).1 ∧ l.saveE s = (runW l.fr pre s).2 := by
      unfold PL.saveD PL.saveE
      rw [hall, if_neg hne, if_neg hne]
      exact ⟨rfl, rfl⟩
    have hp1 : l.saveP s = l := by unfold PL.saveP; rw [hd1.2, if_neg hne]
    refine ⟨_, results_cellE rfl rfl hrc, by rw [hd1.2], ?_⟩
    rw [hd1.1, hp1]
    have hXF : ∀ k, X k → ¬ (k = w1.heap.size ∨ F k) := fun k hk h => h.elim (fun h => by have := HXlt.out k hk; have := Hsz.out; omega) (fun h => H0.out.ap k hk h)
    refine ⟨(HK3.out.mono (T := fun k => F k ∨ X k) (fun _ _ h => h.elim)).trans hkA (fun k hk h => h.elim (fun h => by have := Hsz.out; omega) (fun h => .inl h)), Fd, X, ⟨hdv, ⟨ph, vh, pd, vd, HP3.out.kept hkA (fun k hk => hXF k ((HX.out k).2 hk)), HX.out⟩, fun k hk hf => ?_, hfit⟩, fun k hk => ?_⟩
    · rcases hFd k hf with h2 | h2
      · exact H0.out.ap k hk h2
      · have := HXlt.out _ hk; have := Hsz.out; omega
    · rcases hk with h | h
      · exact (hFd k h).elim (fun h => .inl (.inl h)) (fun h => .inr (by have := Hsz.out; omega))
      · exact .inl (.inr h)
end Go.Proofs.Ytnlcmgdeohbmoaa
