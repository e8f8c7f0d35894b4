/-
  The law's commits: the records of Open's entries that are commits.
-/
import Derived.Test.YtbbhchmdggfncaaJ30
import Derived.Test.YtbbhchmdggfncaaJ27
namespace Go.Proofs.Ytbbhchmdggfncaa
open Go.RowKit Go.Shelf
set_option linter.unusedSimpArgs false
set_option linter.unusedVariables false
set_option maxRecDepth 100000

def rvC (y : Rv) : List Value := [.int .i64 y.kd, .int .i64 y.tl, .int .i64 y.nm, .slice y.s.a y.s.n y.s.c]
/-- v is one's own slice of the records R, which are one's own. -/
def RvOwn (w : World) (v : Value) (R : List Rv) : Prop := w.ownsRow 0 37 4 v R.length (R.flatMap rvC) ∧ ∀ y ∈ R, WsOwn w y.s.v y.ws ∧ y.ws.length ≤ 65535
def rvsX (v : Value) (R : List Rv) (k : Nat) : Prop := v.ownBlock = some k ∨ ∃ y ∈ R, rvX y k
theorem RvOwn.nil (w : World) : RvOwn w (.slice none 0 0) [] := ⟨World.ownsRow_nil _ _ _ _, by simp⟩
theorem RvOwn.kept {S : NSet} {w w' : World} {v : Value} {R : List Rv} (h : RvOwn w v R) (hk : Kept S w w') (hS : ∀ k, S k → ¬ rvsX v R k) : RvOwn w' v R :=
  ⟨ownsRow_kept h.1 hk (fun k hv hs => hS k hs (.inl hv)), fun y hy => ⟨wsOwn_keptX (h.2 y hy).1 hk (fun k hs hr => hS k hs (.inr ⟨y, hy, hr⟩)), (h.2 y hy).2⟩⟩
theorem RvOwn.ne {w : World} {v : Value} {R : List Rv} (h : RvOwn w v R) {b : Nat} {M : List Value} {t : TypeId} (hb : Blk w b M t) (h0 : t ≠ 37) (h1 : t ≠ 39) (h2 : t ≠ 5) : ¬ rvsX v R b := by
  rintro (h3 | ⟨x, hx, h3⟩)
  · exact ownsRow_blk_ne h.1 hb h0 h3
  · exact rvX_ne (h.2 x hx).1 hb h1 h2 h3
theorem rowR_rvX {w : World} {v : Value} {n : Nat} {xs : List Value} (h : w.ownsRow 0 37 4 v n xs) {y : Rv} (hy : WsOwn w y.s.v y.ws) (k : Nat) (hk : v.ownBlock = some k) : ¬ rvX y k := by
  rintro (h2 | ⟨z, hz, h2⟩)
  · exact own_apart h hy.1 (by decide) k hk h2
  · exact own_apart h (hy.2 z hz).1 (by decide) k hk h2
theorem RvOwn.snoc {w : World} {v : Value} {R : List Rv} (h : RvOwn w v R) (y : Rv) (ho : WsOwn w y.s.v y.ws) (h65 : y.ws.length ≤ 65535) {g : Nat} (hg : Blk w g (rvC y) 37) (hl : R.length ≤ 1000000) (ty : TypeId) :
    ∃ v' w', (Builtin.append_ #[34, 34] ty #[v, .slice (some ⟨g, 0, none⟩) 1 1]).run Try.prog w = .ok v' w' ∧ RvOwn w' v' (R ++ [y]) ∧ Kept (fun k => v.ownBlock = some k) w w' ∧ (v'.ownBlock = v.ownBlock ∨ v'.ownBlock = some w.heap.size) := by
  obtain ⟨i0, hi, hz, hs, hb⟩ := info_parts Try.info37
  obtain ⟨v', w', hr, h2, h3, _, h5⟩ := run_append_own_at (P := Try.prog) w 0 34 ty 37 i0 _ 4 _ Try.underlying34 hi hz hs hb rfl (by decide) v R.length _ h.1 ⟨g, 0, none⟩ 1 1 (rvC y) rfl (fun j u hj => by rw [addr_add, hg.cell, Nat.zero_add]; exact hj) (by simp [rvC, Value.oneCell']) (by unfold maxLen; omega) (by omega) (Nat.zero_le _)
  have hk := Kept.of_grown h3
  refine ⟨v', w', hr, ⟨?_, ?_⟩, hk, h5⟩
  · rw [List.flatMap_append, List.length_append]
    simpa using h2
  · intro x hx
    rcases List.mem_append.1 hx with hx | hx
    · exact ⟨wsOwn_keptX (h.2 x hx).1 hk (fun k hv => rowR_rvX h.1 (h.2 x hx).1 k hv), (h.2 x hx).2⟩
    · simp at hx
      subst hx
      exact ⟨wsOwn_keptX ho hk (fun k hv => rowR_rvX h.1 ho k hv), h65⟩
theorem flatE_at (es : List Ev) (C : List Value) (k : Nat) (hk : k < es.length) : ((es.flatMap evC ++ C).drop (k * 7)).take 7 = evC es[k] := by
  have h1 : es = es.take k ++ es[k] :: es.drop (k + 1) := by rw [List.getElem_cons_drop, List.take_append_drop]
  have h2 : (es.take k).length = k := by rw [List.length_take]; omega
  conv => lhs; rw [h1]
  rw [List.flatMap_append, List.flatMap_cons, List.append_assoc, List.append_assoc]
  rw [List.drop_left' (by rw [evC_len, h2]), List.take_left' (by simp [evC])]
/-- The commits among entries. -/
def comE (l : List En) : List Rc := (l.filter fun x => decide (x.rc.kind = 3)).map En.rc
theorem comE_snoc (l : List En) (x : En) : comE (l ++ [x]) = if x.rc.kind = 3 then comE l ++ [x.rc] else comE l := by
  unfold comE
  rw [List.filter_append]
  split <;> simp_all

set_option maxRecDepth 100000 in
set_option maxHeartbeats 8000000 in
theorem commits_at (w : World) (b n : Nat) (l : Lg) (s : D.DS) (F : Nat → Prop) (h : LogAt w b l) (hd : D.DevAt w l.db n s F) (hFb : ¬ F b) (hz : 4 ≤ l.sz ∧ l.sz ≤ 64) (hg : 3 ≤ l.sg ∧ l.sg ≤ 64) (hr : l.fr + l.sg * l.sz ≤ n) (ho : s.off = false)
    (L : List (List Nat)) (h64 : ∀ x ∈ L, x.length = 64) (hLn : L.length = n) (hLb : ∀ x ∈ L, ∀ y ∈ x, y < 256) (hv : s.view = BV L.flatten) (ep : Int) (hep : 0 ≤ ep ∧ ep ≤ 4294967295)
    (T : List En × Int) (hT : opRun l.sz ep (segB l.fr l.sg l.sz L) l.sg 0 0 = T) (hTl : T.1.length ≤ 100000) :
    Calls Try.prog 11 #[.pointer (some ⟨b, 0, none⟩), .int .i64 ep] w fun e w' => ∃ v R, e = .returned (.tuple #[v, .int .i64 0]) ∧ RvOwn w' v R ∧ R.map Rv.rc = comE T.1 ∧ (∀ k, rvsX v R k → w.heap.size ≤ k) ∧ ∃ en : Nat, T.2 = en ∧ en ≤ 5000000 ∧ LogAt w' b { l with en := en } ∧ Kept (fun k => k = b) w w' := by
  have HOp := hide (rgopen_at w b n l s F h hd hFb hz hg hr ho L h64 hLn hLb hv ep hep T hT)
  have HB := hide h.lt
  obtain ⟨i58, hi58, hz58, hs58, hb58⟩ := info_parts Try.info58
  have Hi58 := hide hi58
  have Hz58 := hide hz58
  obtain ⟨i37, hi37, hz37, hs37, hb37⟩ := info_parts Try.info37
  have Hi37 := hide hi37
  have Hz37 := hide hz37
  have Hs37 := hide hs37
  have HTl := hide hTl
  clear h hd hFb hz hg hr ho h64 hLn hLb hv hep hT hi58 hz58 hs58 hb58 hi37 hz37 hs37 hb37 hTl
  go_enter Try.func11, Try.ntmps11
  go_wp2_with fail
  refine HOp.out.mono ?_
  rintro e w1 ⟨v, es, rfl, hown, hmap, hge, en, hen, hen5, hlog, hk1⟩
  obtain ⟨sa, sc, rfl⟩ := ownsRow_slice hown.1
  obtain ⟨len, hlen⟩ : ∃ len, es.length = len := ⟨_, rfl⟩
  have HLen := hide hlen
  have hl5 : len ≤ 100000 := by
    have h1 := congrArg List.length hmap
    rw [List.length_map] at h1
    have := HTl.out
    omega
  rw [hlen]
  have HOwn := hide hown
  have HMap := hide hmap
  have HGe := hide hge
  have HLog := hide hlog
  have HK1 := hide hk1
  have HEn := hide (And.intro hen hen5)
  clear hown hmap hge hlog hk1 hen hen5 hlen HOp
  go_wp2_with fail
  go_loopw [8, 19] (fun o i wr => ∃ (k : Nat) (R : List Rv), i = .int .i64 k ∧ k ≤ len ∧ Hid (RvOwn wr o R) ∧ Hid (R.map Rv.rc = comE (T.1.take k)) ∧ Hid (∀ j, o.ownBlock = some j → w1.heap.size ≤ j) ∧ Hid (∀ j, rvsX o R j → w.heap.size ≤ j) ∧ Hid (R.length ≤ k) ∧ Kept (fun _ => False) w1 wr)
    (fun o i _ => len - (intOf i).toNat)
  case atStart => exact ⟨0, [], rfl, Nat.zero_le _, hide (RvOwn.nil _), hide rfl, hide (by simp [Value.ownBlock]), hide (by rintro j (h | ⟨y, hy, _⟩); exact absurd h (by simp [Value.ownBlock]); simp at hy), hide (Nat.le_refl _), Kept.refl _ _⟩
  case round =>
    obtain ⟨k, R, rfl, hk, HR, HM, HN, HX, HRl, hkr⟩ := hrel
    obtain ⟨oa, oc, rfl⟩ := ownsRow_slice HR.out.1
    by_cases hlt : k < len
    · have hke : k < es.length := by rw [HLen.out]; exact hlt
      rcases ownsRow_blk HOwn.out.1 with ⟨_, h0, _⟩ | ⟨g, cap, C, e, hb, _, _, _⟩
      · omega
      cases e
      have hbw := hkr.blk hb (fun h => h)
      have hfl := flatE_at es C k hke
      have htk : Hid (comE (T.1.take (k + 1)) = if es[k].y.rc.kind = 3 then comE (T.1.take k) ++ [es[k].y.rc] else comE (T.1.take k)) := hide (by
        have hkT : k < T.1.length := by rw [← HMap.out, List.length_map]; exact hke
        have hx : T.1[k] = es[k].en := by
          have := List.getElem_of_eq HMap.out.symm hkT
          rw [this, List.getElem_map]
        rw [List.take_succ_eq_append_getElem hkT, comE_snoc, hx]
        rfl)
      have hwo := HOwn.out.2 es[k] (List.getElem_mem hke)
      have hxge : ∀ j, rvX es[k].y j → w.heap.size ≤ j := fun j hj => HGe.out j (.inr ⟨_, List.getElem_mem hke, hj⟩)
      have hll : k * 7 + 7 ≤ (es.flatMap evC ++ C).length := by rw [List.length_append, evC_len]; omega
      obtain ⟨x, hx⟩ : ∃ x, es[k] = x := ⟨_, rfl⟩
      rw [hx] at hfl htk hwo hxge
      obtain ⟨xl, xe, xn, yk, yt, ym, ⟨ya, yn, yc⟩, yw⟩ := x
      have HBw := hide hbw
      have HFl := hide hfl
      have HWo := hide hwo
      have HXge := hide hxge
      have Hll := hide hll
      clear hbw hfl hwo hxge hll hx hb
      by_cases hy : yk = 3
      · subst hy
        go_wp2_with (first
          | (with_reducible refine aw_load (x := .tmp 21) (M := evC ⟨xl, xe, xn, 3, yt, ym, ⟨ya, yn, yc⟩, yw⟩) Try.agg58 rfl HBw.out (by have := Hll.out; omega) (by first | exact HFl.out | (rw [Nat.zero_add]; exact HFl.out)) ?_)
          | ((with_reducible refine aw_alloc (t := 58) (dst := some 10) Hi58.out Hz58.out ?_); intro w2 hw2 hk2 hz2; have Hz2 := hide hz2; clear hz2)
          | ((with_reducible refine aw_store (x := .tmp 10) (M := evC ⟨xl, xe, xn, 3, yt, ym, ⟨ya, yn, yc⟩, yw⟩) Try.agg58 rfl rfl rfl (by simp [evC, Value.oneCell']) hw2 (by simp [Value.cells]) ?_); intro w3 hw3 hk3 hz3; rw [put_whole _ _ (by simp [Value.cells, evC])] at hw3; have HK3 := hide (hk2.trans hk3 (S := fun _ => False) (fun i hi h => by omega)); have c3 : w3.cell? ⟨wr.heap.size, 3, none⟩ = some (.int .i64 3) := hw3.cell 3; have HW3 := hide hw3; clear hz3 hw2 hk2 hk3 hw3)
          | (with_reducible refine stop_load 37 ?_)
          | fail)
        refine hide ?_
        refine aw_load (off := 3) (M := rvC ⟨3, yt, ym, ⟨ya, yn, yc⟩, yw⟩) Try.agg37 rfl HW3.out (by simp [evC]) (by simp [evC, rvC]) ?_
        try simp only [put_lit, put_none, List.set_cons_succ, List.set_cons_zero]
        go_wp2_with (with_reducible refine stop_bs 34 ?_)
        refine hide ?_
        refine wpList_run rfl (run_buildSlice_one (M := rvC ⟨3, yt, ym, ⟨ya, yn, yc⟩, yw⟩) Try.underlying34 Hi37.out Hz37.out Hs37.out (by simp [rvC]) (by simp [rvC]) (.inl rfl)) ?_
        have hbA := Blk.new w3 (rvC ⟨3, yt, ym, ⟨ya, yn, yc⟩, yw⟩) 37
        have hkA : Kept (fun _ => False) w3 (w3.alloc (.cells (rvC ⟨3, yt, ym, ⟨ya, yn, yc⟩, yw⟩).toArray 37)) := Kept.alloc _ _ _
        generalize w3.alloc (.cells (rvC ⟨3, yt, ym, ⟨ya, yn, yc⟩, yw⟩).toArray 37) = A1 at hbA hkA
        have hkr1 : Kept (fun _ => False) wr A1 := HK3.out.trans hkA (fun _ _ h => h)
        have hR1 := HR.out.kept hkr1 (fun _ h => h.elim)
        have hw1 : WsOwn A1 (Sl.v ⟨ya, yn, yc⟩) yw := wsOwn_keptX (y := ⟨3, yt, ym, ⟨ya, yn, yc⟩, yw⟩) HWo.out.1 (hkr.trans hkr1 (fun _ _ h => h)) (fun _ h => h.elim)
        obtain ⟨vn, A2, hr2, hown2, hk2, hv2⟩ := hR1.snoc ⟨3, yt, ym, ⟨ya, yn, yc⟩, yw⟩ hw1 HWo.out.2 hbA (by have := HRl.out; omega) 34
        have hk12 : Kept (fun _ => False) w1 A2 := (hkr.trans hkr1 (fun _ _ h => h)).trans hk2 (fun j hj h => by have := HN.out j h; omega)
        have hn2 : ∀ j, vn.ownBlock = some j → w1.heap.size ≤ j := fun j hj => by
          rcases hv2 with h | h
          · exact HN.out j (by rw [← h]; exact hj)
          · rw [h] at hj; cases hj
            have := hkr.size; have := hkr1.size; omega
        have hx2 : ∀ j, rvsX vn (R ++ [⟨3, yt, ym, ⟨ya, yn, yc⟩, yw⟩]) j → w.heap.size ≤ j := by
          rintro j (h | ⟨y, hy, h⟩)
          · have := hn2 j h; have := HK1.out.size; omega
          · rcases List.mem_append.1 hy with hy | hy
            · exact HX.out j (.inr ⟨y, hy, h⟩)
            · simp at hy
              subst hy
              exact HXge.out j h
        obtain ⟨na, nc, rfl⟩ := ownsRow_slice hown2.1
        have HR2 := hide hr2
        have HOwn2 := hide hown2
        have HK12 := hide hk12
        have HN2 := hide hn2
        have HX2 := hide hx2
        have HM2 : Hid ((R ++ [(⟨3, yt, ym, ⟨ya, yn, yc⟩, yw⟩ : Rv)]).map Rv.rc = comE (T.1.take (k + 1))) := hide (by
          have := htk.out
          rw [if_pos (show (Rv.rc ⟨3, yt, ym, ⟨ya, yn, yc⟩, yw⟩).kind = 3 from rfl)] at this
          rw [this, List.map_append, HM.out]
          rfl)
        clear hbA hkA hkr1 hR1 hw1 hr2 hown2 hk2 hv2 hk12 hn2 hx2 c3
        try simp only [put_lit, put_none, List.set_cons_succ, List.set_cons_zero]
        go_wp2_with (with_reducible refine stop_app2 34 34 ?_)
        refine hide ?_
        refine wpList_run rfl (r_app rfl rfl HR2.out) ?_
        try simp only [put_lit, put_none, List.set_cons_succ, List.set_cons_zero]
        go_wp2
        go_roundw
        case rel => exact ⟨k + 1, _, by simp, by omega, HOwn2, HM2, HN2, HX2, hide (by have := HRl.out; simp; omega), HK12.out⟩
        case measure => simp [intOf]; omega
      · have HM2 : Hid (R.map Rv.rc = comE (T.1.take (k + 1))) := hide (by
          have := htk.out
          rw [if_neg (show ¬ (Rv.rc ⟨yk, yt, ym, ⟨ya, yn, yc⟩, yw⟩).kind = 3 from hy)] at this
          rw [this, HM.out])
        go_wp2_with (first
          | (with_reducible refine aw_load (x := .tmp 21) (M := evC ⟨xl, xe, xn, yk, yt, ym, ⟨ya, yn, yc⟩, yw⟩) Try.agg58 rfl HBw.out (by have := Hll.out; omega) (by first | exact HFl.out | (rw [Nat.zero_add]; exact HFl.out)) ?_)
          | ((with_reducible refine aw_alloc (t := 58) (dst := some 10) Hi58.out Hz58.out ?_); intro w2 hw2 hk2 hz2; have Hz2 := hide hz2; clear hz2)
          | ((with_reducible refine aw_store (x := .tmp 10) (M := evC ⟨xl, xe, xn, yk, yt, ym, ⟨ya, yn, yc⟩, yw⟩) Try.agg58 rfl rfl rfl (by simp [evC, Value.oneCell']) hw2 (by simp [Value.cells]) ?_); intro w3 hw3 hk3 hz3; rw [put_whole _ _ (by simp [Value.cells, evC])] at hw3; have HK3 := hide (hk2.trans hk3 (S := fun _ => False) (fun i hi h => by omega)); have c3 : w3.cell? ⟨wr.heap.size, 3, none⟩ = some (.int .i64 yk) := hw3.cell 3; have HW3 := hide hw3; clear hz3 hw2 hk2 hk3 hw3)
          | (with_reducible refine stop_load 37 ?_)
          | fail)
        go_roundw
        case rel => exact ⟨k + 1, R, by simp, by omega, hide (HR.out.kept HK3.out (fun _ h => h.elim)), HM2, HN, HX, hide (by have := HRl.out; omega), hkr.trans HK3.out (fun _ _ h => h)⟩
        case measure => simp [intOf]; omega
    · obtain rfl : k = len := by omega
      go_wp2
      go_ret2
      rw [List.take_of_length_le (by rw [← HMap.out, List.length_map, HLen.out]; exact Nat.le_refl _)] at HM
      have hk : Kept (fun k => k = b) w wr := HK1.out.trans (hkr.mono (fun _ _ h => h.elim)) (fun _ _ h => h)
      exact ⟨_, R, rfl, HR.out, HM.out, HX.out, en, HEn.out.1, HEn.out.2, hkr.blk HLog.out (fun h => h), hk⟩
end Go.Proofs.Ytbbhchmdggfncaa


/-
  The segments of a ring as commits are added; what is found behind a crash is a beginning of them, and holds what was flushed. Plain functions over lists; no condition beyond each law's own premises.
-/
namespace Go.Proofs.Ytbbhchmdggfncaa
open Go.RowKit Go.Shelf
set_option linter.unusedSimpArgs false
set_option linter.unusedVariables false
set_option maxRecDepth 100000

theorem endsIn_snoc (l : List It) (x : It) : endsIn (l ++ [x]) = decide (x.2.kind = 2) := by simp [endsIn]
theorem itsOk_snoc : ∀ (p : Int) (l : List It) (x : It), itsOk p l → endsIn l = false → ItOk (p + itsN l) x → itsOk p (l ++ [x])
  | p, [], x, _, _, h => by
    refine ⟨by simpa [itsN] using h, fun _ => rfl, trivial⟩
  | p, [y], x, ⟨h1, h2, h3⟩, he, h => by
    have hk : ¬ y.2.kind = 2 := by simpa [endsIn] using he
    refine ⟨h1, fun h => absurd h hk, ?_, fun _ => rfl, trivial⟩
    simpa [itsN] using h
  | p, y :: u :: l, x, ⟨h1, h2, h3⟩, he, h => by
    have ih := itsOk_snoc (p + itN y) (u :: l) x h3 (by simpa [endsIn, List.getLast?_cons_cons] using he) (by
      rw [show p + (itN y : Int) + (itsN (u :: l) : Int) = p + (itsN (y :: u :: l) : Int) by have : itsN (y :: u :: l) = itN y + itsN (u :: l) := rfl; omega]
      exact h)
    exact ⟨h1, fun hk => absurd (h2 hk) (by simp), ih⟩
theorem segFits_snoc {sz : Nat} {e0 : Int} : ∀ (l : List It) (s : Nat) (x : It), segFits sz e0 s l → s + itsN l < sz → belN x.2.kind (itN x) (s + itsN l) sz = true → x.1 = e0 → segFits sz e0 s (l ++ [x])
  | [], s, x, _, h1, h2, h3 => ⟨by simpa [itsN] using h1, by simpa [itsN] using h2, h3, trivial⟩
  | y :: l, s, x, ⟨f1, f2, f3, f4⟩, h1, h2, h3 => by
    rw [itsN] at h1 h2
    exact ⟨f1, f2, f3, segFits_snoc l _ x f4 (by omega) (by rw [show s + itN y + itsN l = s + (itN y + itsN l) by omega]; exact h2) h3⟩
/-- The segments of a ring: those that a switch has ended, and the last one. -/
structure SegsOk (sz : Nat) (e0 : Int) (pre : List (List It)) (l : List It) : Prop where
  prev : ∀ (i : Nat) (l' : List It), pre[i]? = some l' → l' ≠ [] ∧ itsOk ((sz * i : Nat) : Int) l' ∧ segFits sz e0 0 l' ∧ endsIn l' = true
  ok : itsOk ((sz * pre.length : Nat) : Int) l
  fit : segFits sz e0 0 l
  ne : l ≠ []
  nosw : endsIn l = false
  lt : itsN l < sz
theorem SegsOk.goesIn {sz : Nat} {e0 : Int} {pre : List (List It)} {l : List It} (h : SegsOk sz e0 pre l) {x : It} (hk : x.2.kind = 3) (he : x.1 = e0) (hx : ItOk ((sz * pre.length : Nat) + itsN l : Int) x) (hfit : itsN l + itN x < sz) : SegsOk sz e0 pre (l ++ [x]) := by
  have hpos : 0 < itsN l := by
    have := h.ne
    cases l with
    | nil => exact absurd rfl this
    | cons y l => have := itN_pos y; rw [itsN]; omega
  refine ⟨h.prev, itsOk_snoc _ l x h.ok h.nosw hx, segFits_snoc l 0 x h.fit (by have := h.lt; omega) ?_ he, by simp, ?_, ?_⟩
  · unfold belN
    rw [hk, if_neg (by decide), if_pos rfl]
    simp only [Nat.zero_add, Bool.and_eq_true, decide_eq_true_eq]
    omega
  · rw [endsIn_snoc, hk]; rfl
  · rw [itsN_append, itsN, itsN]; omega
theorem SegsOk.turn {sz : Nat} {e0 : Int} {pre : List (List It)} {l : List It} (h : SegsOk sz e0 pre l) (hsz : 2 ≤ sz) {sw hd : It} (hk : sw.2.kind = 2) (hk2 : hd.2.kind = 1) (he : sw.1 = e0) (he2 : hd.1 = e0) (hx : ItOk ((sz * pre.length : Nat) + itsN l : Int) sw) (hh : ItOk ((sz * (pre.length + 1) : Nat) : Int) hd) (hl : itN hd < sz) : SegsOk sz e0 (pre ++ [l ++ [sw]]) [hd] := by
  have hpos : 0 < itsN l := by
    have := h.ne
    cases l with
    | nil => exact absurd rfl this
    | cons y l => have := itN_pos y; rw [itsN]; omega
  refine ⟨?_, ?_, ⟨by omega, ?_, he2, trivial⟩, by simp, ?_, by simpa [itsN] using hl⟩
  · intro i l' hi
    rcases Nat.lt_or_ge i pre.length with h1 | h1
    · rw [List.getElem?_append_left h1] at hi
      exact h.prev i l' hi
    · rw [List.getElem?_append_right h1] at hi
      cases h2 : i - pre.length with
      | zero =>
        rw [h2] at hi
        simp at hi
        obtain rfl : i = pre.length := by omega
        subst hi
        refine ⟨by simp, itsOk_snoc _ l sw h.ok h.nosw hx, segFits_snoc l 0 sw h.fit (by have := h.lt; omega) ?_ he, by rw [endsIn_snoc, hk]; rfl⟩
        unfold belN
        rw [hk, if_neg (by decide), if_neg (by decide)]
        simp only [Nat.zero_add, decide_eq_true_eq]
        exact hpos
      | succ j => rw [h2] at hi; simp at hi
  · rw [List.length_append]
    exact ⟨hh, fun h => absurd h (by rw [hk2]; decide), trivial⟩
  · unfold belN
    rw [hk2, if_pos rfl]
    rfl
  · simp [endsIn, hk2]
/-- Later segments have the elder ones' records at their beginning. -/
def Grows (pf : List (List It)) (lf : List It) (pre : List (List It)) (l : List It) : Prop := (pf = pre ∧ ∃ t, l = lf ++ t) ∨ ∃ t rest, pre = pf ++ (lf ++ t) :: rest
theorem Grows.refl (pf : List (List It)) (lf : List It) : Grows pf lf pf lf := .inl ⟨rfl, [], by simp⟩
theorem Grows.goesIn {pf pre : List (List It)} {lf l : List It} (h : Grows pf lf pre l) (x : It) : Grows pf lf pre (l ++ [x]) := by
  rcases h with ⟨rfl, t, rfl⟩ | h
  · exact .inl ⟨rfl, t ++ [x], by simp⟩
  · exact .inr h
theorem Grows.turn {pf pre : List (List It)} {lf l : List It} (h : Grows pf lf pre l) (sw hd : It) : Grows pf lf (pre ++ [l ++ [sw]]) [hd] := by
  rcases h with ⟨rfl, t, rfl⟩ | ⟨t, rest, rfl⟩
  · exact .inr ⟨t ++ [sw], [], by simp⟩
  · exact .inr ⟨t, rest ++ [l ++ [sw]], by simp⟩
theorem Grows.at {pf pre : List (List It)} {lf l : List It} (h : Grows pf lf pre l) : (pre ++ [l]).take pf.length = pf ∧ ∃ t, (pre ++ [l])[pf.length]? = some (lf ++ t) := by
  rcases h with ⟨rfl, t, rfl⟩ | ⟨t, rest, rfl⟩
  · exact ⟨by simp, t, by simp⟩
  · exact ⟨by simp, t, by simp⟩
/-- All records that are laid. -/
def recs (segs : List (List It)) : List Rc := segs.flatten.map (·.2)
theorem tells_rc : ∀ (p : Int) (l : List It), (tells p l).map En.rc = l.map (·.2)
  | _, [] => rfl
  | p, x :: l => by rw [tells, List.map_cons, tells_rc _ l, List.map_cons]
theorem tellAll_rc (sz : Nat) : ∀ (k : Nat) (segs : List (List It)), (tellAll sz k segs).map En.rc = recs segs
  | _, [] => rfl
  | k, l :: ls => by rw [tellAll, List.map_append, tells_rc, tellAll_rc sz (k + 1) ls]; simp [recs]
theorem comE_rc (l : List En) : comE l = (l.map En.rc).filter fun r => decide (r.kind = 3) := by
  unfold comE
  induction l with
  | nil => rfl
  | cons x l ih =>
    simp only [List.map_cons, List.filter_cons]
    split <;> simp_all
/-- The commits among them. -/
def comR (segs : List (List It)) : List Rc := (recs segs).filter fun r => decide (r.kind = 3)

/-- The cut segments are the first ones; the open one is a beginning of the next one. -/
theorem cutS_pre : ∀ (segs : List (List It)) (M : Nat), (cutS segs M).1 = segs.take (cutS segs M).1.length ∧ ((∃ l q, segs[(cutS segs M).1.length]? = some l ∧ (cutS segs M).2 = l.take q) ∨ ((cutS segs M).1.length = segs.length ∧ (cutS segs M).2 = []))
  | [], M => by simp [cutS]
  | l :: ls, M => by
    unfold cutS
    split
    · obtain ⟨h1, h2⟩ := cutS_pre ls (M - l.length)
      refine ⟨by simp only [List.length_cons, List.take_succ_cons]; rw [← h1], ?_⟩
      simpa using h2
    · exact ⟨rfl, .inl ⟨l, M, rfl, rfl⟩⟩
theorem S_at {L : List (List Nat)} {a m i : Nat} (hi : i < m) : ((L.drop a).take m)[i]? = L[a + i]? := by rw [List.getElem?_take_of_lt hi, List.getElem?_drop]
theorem open_keeps {sz n : Nat} (hsz : 2 ≤ sz) {e0 : Int} (he : 0 ≤ e0) {z : List Nat} (hz : (getN z).2 ≠ 0) (hz64 : z.length = 64) {pre : List (List It)} {l : List It} (h : SegsOk sz e0 pre l) {sg : Nat} (hsg : pre.length + 1 ≤ sg) (hn : sz * sg ≤ n)
    {L : List (List Nat)} (hLn : L.length = n) (hL : ∀ x ∈ L, x.length = 64) (hor : ∀ (p : Nat) (y : List Nat), L[p]? = some y → y = z ∨ layAt sz (pre ++ [l]) p = some y)
    {pf : List (List It)} {lf : List It} (hg : Grows pf lf pre l) (hsure : ∀ (p : Nat) (y : List Nat), layAt sz (pf ++ [lf]) p = some y → L[p]? = some y) :
    ∃ M, (∀ ep, e0 ≤ ep → opRun sz ep (segB 0 sg sz L) sg 0 0 = ((tellAll sz 0 (pre ++ [l])).take M, endAll sz 0 (pre ++ [l]) M)) ∧ M ≤ (pre ++ [l]).flatten.length ∧ (pf ++ [lf]).flatten.length ≤ M ∧
      ∀ (p : Nat) (y : List Nat), layAt sz ((cutS (pre ++ [l]) M).1 ++ [(cutS (pre ++ [l]) M).2]) p = some y → L[p]? = some y := by
  have hseg : ∀ (i : Nat) (l' : List It), (pre ++ [l])[i]? = some l' → (l' ≠ [] ∧ itsOk ((sz * i : Nat) : Int) l' ∧ segFits sz e0 0 l') ∧ (i + 1 < (pre ++ [l]).length ↔ endsIn l' = true) ∧ itsN l' ≤ sz ∧ (endsIn l' = true ∨ itsN l' < sz) ∧ i < sg := by
    intro i l' hi
    rcases Nat.lt_or_ge i pre.length with h1 | h1
    · rw [List.getElem?_append_left h1] at hi
      obtain ⟨q1, q2, q3, q4⟩ := h.prev i l' hi
      exact ⟨⟨q1, q2, q3⟩, ⟨fun _ => q4, fun _ => by simp; omega⟩, by have := segFits_end l' 0 q3 q4; omega, .inl q4, by omega⟩
    · rw [List.getElem?_append_right h1] at hi
      cases h2 : i - pre.length with
      | zero =>
        rw [h2] at hi
        simp at hi
        obtain rfl : i = pre.length := by omega
        subst hi
        exact ⟨⟨h.ne, h.ok, h.fit⟩, ⟨fun h => by simp at h, fun h' => by rw [h.nosw] at h'; cases h'⟩, by have := h.lt; omega, .inr h.lt, by omega⟩
      | succ j => rw [h2] at hi; simp at hi
  have hmul : ∀ i, i < sg → sz * i + sz ≤ n := by
    intro i hi
    have : sz * (i + 1) ≤ sz * sg := Nat.mul_le_mul_left sz hi
    rw [Nat.mul_add] at this
    omega
  obtain ⟨S, hS⟩ : ∃ S : Nat → List (List Nat), ∀ i l', (pre ++ [l])[i]? = some l' → S i = (L.drop (sz * i)).take (itsN l') := ⟨fun i => (L.drop (sz * i)).take (itsN ((pre ++ [l])[i]?.getD [])), fun i l' hi => by simp [hi]⟩
  obtain ⟨T, hT⟩ : ∃ T : Nat → List (List Nat), ∀ i l', (pre ++ [l])[i]? = some l' → T i = (L.drop (sz * i + itsN l')).take (sz - itsN l') := ⟨fun i => (L.drop (sz * i + itsN ((pre ++ [l])[i]?.getD []))).take (sz - itsN ((pre ++ [l])[i]?.getD [])), fun i l' hi => by simp [hi]⟩
  obtain ⟨M, hM, hMl, hMc, hMq⟩ := opRun_crash (sz := sz) (by omega) he hz hz64 (rd := segB 0 sg sz L) (pre ++ [l]) 0 sg 0 S T (by simp) (by simp; omega) (Int.le_refl _) he (fun i l' hi => by
    obtain ⟨⟨q1, q2, q3⟩, q4, q5, q6, q7⟩ := hseg i l' hi
    have hm := hmul i q7
    refine ⟨?_, q4⟩
    rw [Nat.zero_add]
    refine ⟨q2, q3, q1, ?_, ?_, ?_, ?_, ?_⟩
    · rw [hS i l' hi, hT i l' hi]
      unfold segB
      rw [Nat.mod_eq_of_lt q7, Nat.zero_add, Nat.mul_comm i sz]
      congr 1
      rw [← List.drop_drop, ← List.take_add]
      congr 1
      omega
    · rw [hS i l' hi, itsS_len, List.length_take, List.length_drop, hLn]
      omega
    · intro j y hj
      rw [hS i l' hi] at hj
      rcases Nat.lt_or_ge j (itsN l') with h1 | h1
      · rw [S_at h1] at hj
        rcases hor _ y hj with h2 | h2
        · exact .inl h2
        · rw [layAt_in (by omega) hi (by omega)] at h2
          exact .inr h2
      · rw [List.getElem?_eq_none (by rw [List.length_take]; omega)] at hj
        cases hj
    · intro y hy
      rw [hT i l' hi] at hy
      exact hL y (List.mem_of_mem_drop (List.mem_of_mem_take hy))
    · rcases q6 with h1 | h1
      · exact .inr (endsIn_of h1)
      · left
        have hlt : sz * i + itsN l' < L.length := by omega
        have h2 := List.getElem?_eq_getElem hlt
        rw [hT i l' hi, List.head?_eq_getElem?, S_at (by omega), Nat.add_zero, h2]
        rcases hor _ _ h2 with h3 | h3
        · rw [h3]
        · rw [layAt_in (by omega) hi h1, List.getElem?_eq_none (by rw [itsS_len]; exact Nat.le_refl _)] at h3
          cases h3)
  have hcount : (tellAll sz 0 (pre ++ [l])).length = (pre ++ [l]).flatten.length := by
    have := congrArg List.length (tellAll_rc sz 0 (pre ++ [l]))
    rw [List.length_map] at this
    rw [this]
    unfold recs
    rw [List.length_map]
  refine ⟨M, fun ep hep => by simpa using hM ep hep, by omega, ?_, ?_⟩
  obtain ⟨hg1, t, hg2⟩ := hg.at
  have hsz0 : 0 < sz := by omega
  rotate_left
  · intro p y hp
    have hsz0 : 0 < sz := by omega
    obtain ⟨c, hc⟩ : ∃ c, c = cutS (pre ++ [l]) M := ⟨_, rfl⟩
    rw [← hc] at hp hMc
    have hy := hp
    unfold layAt at hp
    split at hp
    case h_2 => cases hp
    rename_i l' hl'
    have hj : p % sz < itsN l' := by
      rcases Nat.lt_or_ge (p % sz) (itsN l') with h1 | h1
      · exact h1
      · rw [List.getElem?_eq_none (by rw [itsS_len]; exact h1)] at hp; cases hp
    have hi : p / sz < (pre ++ [l]).length := by
      rcases Nat.lt_or_ge (p / sz) (pre ++ [l]).length with h1 | h1
      · exact h1
      · exfalso
        have hcp := cutS_pre (pre ++ [l]) M
        rw [← hc] at hcp
        have hlt : p / sz < (c.1 ++ [c.2]).length := by
          rcases Nat.lt_or_ge (p / sz) (c.1 ++ [c.2]).length with h2 | h2
          · exact h2
          · rw [List.getElem?_eq_none h2] at hl'; cases hl'
        rw [List.length_append, List.length_singleton] at hlt
        rcases hcp.2 with ⟨l2, q, h2, _⟩ | ⟨h2, h3⟩
        · rw [List.getElem?_eq_none (by omega)] at h2; cases h2
        · have h4 : p / sz = c.1.length := by omega
          rw [h4, List.getElem?_append_right (Nat.le_refl _), Nat.sub_self, h3] at hl'
          simp at hl'
          subst hl'
          simp [itsN] at hj
    have h1 := hMc (p / sz) l' hl' hi
    rw [Nat.zero_add] at h1
    rw [← h1, List.getElem?_take_of_lt hj] at hp
    obtain ⟨l2, hl2⟩ : ∃ l2, (pre ++ [l])[p / sz]? = some l2 := ⟨_, List.getElem?_eq_getElem hi⟩
    obtain ⟨_, _, q5, _, q7⟩ := hseg _ l2 hl2
    rw [hS _ l2 hl2, hT _ l2 hl2, ← List.drop_drop, ← List.take_add, S_at (by have := Nat.mod_lt p hsz0; omega), Nat.div_add_mod] at hp
    exact hp
  have hpl : pf.length < (pre ++ [l]).length := by
    rcases Nat.lt_or_ge pf.length (pre ++ [l]).length with h1 | h1
    · exact h1
    · rw [List.getElem?_eq_none h1] at hg2; cases hg2
  obtain ⟨_, _, hz5, _, hz7⟩ := hseg _ _ hg2
  rw [itsN_append] at hz5
  have := hMq pf.length lf.length (lf ++ t) hg2 (fun i hi l' hl' => by
    obtain ⟨_, _, q5, _, q7⟩ := hseg i l' hl'
    have hpf : (pf ++ [lf])[i]? = some l' := by
      rw [List.getElem?_append_left hi, ← hg1, List.getElem?_take_of_lt hi]
      exact hl'
    rw [hS i l' hl', Nat.zero_add]
    apply List.ext_getElem?
    intro j
    rcases Nat.lt_or_ge j (itsN l') with h1 | h1
    · rw [S_at h1]
      have h2 := layAt_in hsz0 hpf (show j < sz by omega)
      have h3 := List.getElem?_eq_getElem (l := itsS ((sz * i : Nat) : Int) l') (i := j) (by rw [itsS_len]; exact h1)
      rw [h3] at h2 ⊢
      exact hsure _ _ h2
    · rw [List.getElem?_eq_none (by rw [List.length_take]; omega), List.getElem?_eq_none (by rw [itsS_len]; exact h1)]) (by simp) (fun j hj => by
    rw [List.take_left' rfl, itsS_len] at hj
    rw [hS _ _ hg2, Nat.zero_add, S_at (by rw [itsN_append]; omega)]
    have hpf : (pf ++ [lf])[pf.length]? = some lf := by simp
    have h2 := layAt_in hsz0 hpf (show j < sz by omega)
    rw [itsS_append, List.getElem?_append_left (by rw [itsS_len]; exact hj)]
    have h3 := List.getElem?_eq_getElem (l := itsS ((sz * pf.length : Nat) : Int) lf) (i := j) (by rw [itsS_len]; exact hj)
    rw [h3] at h2 ⊢
    exact hsure _ _ h2)
  rw [hg1] at this
  rw [List.flatten_append, List.length_append, List.flatten_cons, List.flatten_nil, List.append_nil]
  exact this
/-- The commits that are found are a beginning of all, and hold those that were there at the flush. -/
theorem found_keeps {sz : Nat} {pre : List (List It)} {l : List It} {pf : List (List It)} {lf : List It} (hg : Grows pf lf pre l) {M : Nat} (hM : (pf ++ [lf]).flatten.length ≤ M) :
    (∃ t, comR (pre ++ [l]) = comE ((tellAll sz 0 (pre ++ [l])).take M) ++ t) ∧ (comR (pf ++ [lf])).length ≤ (comE ((tellAll sz 0 (pre ++ [l])).take M)).length := by
  have h1 : comE ((tellAll sz 0 (pre ++ [l])).take M) = ((recs (pre ++ [l])).take M).filter fun r => decide (r.kind = 3) := by rw [comE_rc, List.map_take, tellAll_rc]
  refine ⟨⟨((recs (pre ++ [l])).drop M).filter fun r => decide (r.kind = 3), ?_⟩, ?_⟩
  · rw [h1, ← List.filter_append, List.take_append_drop]
    rfl
  · have h2 : ∃ u, recs (pre ++ [l]) = recs (pf ++ [lf]) ++ u := by
      rcases hg with ⟨rfl, t, rfl⟩ | ⟨t, rest, rfl⟩
      · exact ⟨t.map (·.2), by simp [recs]⟩
      · exact ⟨t.map (·.2) ++ recs (rest ++ [l]), by simp [recs]⟩
    obtain ⟨u, hu⟩ := h2
    have hl : (recs (pf ++ [lf])).length ≤ M := by unfold recs; rw [List.length_map]; exact hM
    rw [h1, hu, List.take_append, List.take_of_length_le hl, List.filter_append, List.length_append]
    exact Nat.le_add_right _ _
end Go.Proofs.Ytbbhchmdggfncaa


/-
  A ring that goes on behind a crash: what was found, cut off there, and a record of a later epoch behind it. Plain functions over lists; no condition beyond each law's own premises.
-/
namespace Go.Proofs.Ytbbhchmdggfncaa
open Go.RowKit Go.Shelf
set_option linter.unusedSimpArgs false
set_option linter.unusedVariables false
set_option maxRecDepth 100000

theorem cutS_end (sz : Nat) : ∀ (segs : List (List It)) (k M : Nat), endAll sz k segs M = ((sz * (k + (cutS segs M).1.length) : Nat) : Int) + itsN (cutS segs M).2
  | [], k, M => by simp [endAll, cutS, itsN]
  | l :: ls, k, M => by
    unfold endAll cutS
    split
    · simp only [List.length_cons]
      rw [cutS_end sz ls (k + 1) (M - l.length), show k + 1 + (cutS ls (M - l.length)).1.length = k + ((cutS ls (M - l.length)).1.length + 1) by omega]
    · simp
/-- Each but the last ends in a switch, where M is told of no more than there are. -/
theorem cutS_flat : ∀ (segs : List (List It)) (M : Nat), (∀ (i : Nat) (l : List It), segs[i]? = some l → i + 1 < segs.length → endsIn l = true) → ((cutS segs M).1 ++ [(cutS segs M).2]).flatten = segs.flatten.take M
  | [], M, _ => by simp [cutS]
  | l :: ls, M, h => by
    unfold cutS
    split
    · rename_i h1
      have ih := cutS_flat ls (M - l.length) (fun i l' hi h2 => h (i + 1) l' (by simpa using hi) (by simp; omega))
      rw [List.cons_append, List.flatten_cons, ih, List.flatten_cons, List.take_append, List.take_of_length_le h1.1]
    · rename_i h1
      simp only [List.nil_append, List.flatten_cons, List.flatten_nil, List.append_nil]
      rcases Nat.lt_or_ge M l.length with h2 | h2
      · rw [List.take_append_of_le_length (by omega)]
      · have he : ¬ endsIn l = true := fun h3 => h1 ⟨h2, h3⟩
        have hls : ls = [] := by
          cases ls with
          | nil => rfl
          | cons a b => exact absurd (h 0 l rfl (by simp)) he
        rw [hls]
        simp
/-- The epochs don't fall, each record belongs where it lies. -/
def fitsM (sz : Nat) (most : Int) : Nat → Int → List It → Prop
  | _, _, [] => True
  | s, least, x :: l => s < sz ∧ belN x.2.kind (itN x) s sz = true ∧ least ≤ x.1 ∧ x.1 ≤ most ∧ fitsM sz most (s + itN x) x.1 l
theorem fitsM_seg {sz : Nat} {e0 most : Int} (h2 : e0 ≤ most) : ∀ (l : List It) (s : Nat) (least : Int), segFits sz e0 s l → least ≤ e0 → fitsM sz most s least l
  | [], _, _, _, _ => trivial
  | x :: l, s, least, ⟨f1, f2, f3, f4⟩, h => ⟨f1, f2, by rw [f3]; exact h, by rw [f3]; exact h2, by rw [f3]; exact fitsM_seg h2 l _ e0 f4 (Int.le_refl _)⟩
theorem lastE_cons (le : Int) (x : It) (l : List It) : lastE le (x :: l) = lastE x.1 l := by
  unfold lastE
  cases l with
  | nil => rfl
  | cons y l => simp only [List.getLast?_cons_cons, List.getLast?_eq_some_getLast (List.cons_ne_nil y l)]
theorem lastE_snoc (le : Int) (l : List It) (x : It) : lastE le (l ++ [x]) = x.1 := by simp [lastE]
theorem fitsM_snoc {sz : Nat} {most : Int} {x : It} (hm : x.1 ≤ most) : ∀ (l : List It) (s : Nat) (least : Int), fitsM sz most s least l → s + itsN l < sz → belN x.2.kind (itN x) (s + itsN l) sz = true → lastE least l ≤ x.1 → fitsM sz most s least (l ++ [x])
  | [], s, least, _, h1, h2, h3 => ⟨by simpa [itsN] using h1, by simpa [itsN] using h2, by simpa [lastE] using h3, hm, trivial⟩
  | y :: l, s, least, ⟨f1, f2, f3, f4, f5⟩, h1, h2, h3 => by
    rw [itsN] at h1 h2
    rw [lastE_cons] at h3
    exact ⟨f1, f2, f3, f4, fitsM_snoc hm l _ y.1 f5 (by omega) (by rw [show s + itN y + itsN l = s + (itN y + itsN l) by omega]; exact h2) h3⟩
theorem fits_M {sz : Nat} {most lim : Int} : ∀ (l : List It) (s : Nat) (least : Int), fitsM sz most s least l → lim < lastE least l → fits sz most lim s least l
  | [], s, least, _, h => by simpa [lastE, fits] using h
  | x :: l, s, least, ⟨f1, f2, f3, f4, f5⟩, h => ⟨f1, f2, f3, f4, .inr (fits_M l _ x.1 f5 (by rw [lastE_cons] at h; exact h))⟩
theorem lays_full {lim : Int} : ∀ (l : List It) (p : Int) (T : List (List Nat)), itsOk p l → (∀ y ∈ T, y.length = 64) → (endsIn l = true ∨ ∀ e n r, standsN (p + itsN l) T.flatten = some (e, n, r) → e ≤ lim) → Lays lim p l l.length (itsS p l ++ T)
  | [], p, T, _, _, h => by
    rcases h with h | h
    · simp [endsIn] at h
    · exact .last p _ (by simpa [itsN, itsS] using h)
  | x :: l, p, T, ⟨h1, h2, h3⟩, hT, h => by
    rw [itsS, List.append_assoc]
    by_cases hk : x.2.kind = 2
    · rw [h2 hk]
      exact .switch p x _ h1 hk (fun y hy => by simpa [itsS] using hT y (by simpa [itsS] using hy))
    · refine .full p x l l.length _ h1 hk (fun y hy => ?_) (lays_full l _ T h3 hT ?_)
      · rcases List.mem_append.1 hy with hy | hy
        · exact itsS_64 _ _ y hy
        · exact hT y hy
      · rcases h with h | h
        · left
          cases l with
          | nil => exact absurd (by simpa [endsIn] using h) hk
          | cons y l => simpa [endsIn, List.getLast?_cons_cons] using h
        · right
          intro e n r hs
          refine h e n r ?_
          rw [itsN, show p + ((itN x + itsN l : Nat) : Int) = p + itN x + itsN l by omega]
          exact hs
/-- All of some segments are there: each but the last is ended by a switch; behind the last one stands nothing of an epoch above lim. -/
def Full (sz : Nat) (ep lim : Int) (L : List (List Nat)) : Nat → Int → List (List It) → Prop
  | _, _, [] => False
  | k, le, [l] => itsOk ((sz * k : Nat) : Int) l ∧ fitsM sz ep 0 le l ∧ endsIn l = false ∧ l ≠ [] ∧ l.length ≤ sz ∧ lim < lastE le l ∧ ∃ T, (L.drop (sz * k)).take sz = itsS ((sz * k : Nat) : Int) l ++ T ∧ (∀ y ∈ T, y.length = 64) ∧ ∀ e n r, standsN (((sz * k : Nat) : Int) + itsN l) T.flatten = some (e, n, r) → e ≤ lim
  | k, le, l :: u :: ls => itsOk ((sz * k : Nat) : Int) l ∧ fitsM sz ep 0 le l ∧ endsIn l = true ∧ l.length ≤ sz ∧ itsN l ≤ sz ∧ (0 ≤ lastE le l) ∧ (∃ T, (L.drop (sz * k)).take sz = itsS ((sz * k : Nat) : Int) l ++ T ∧ (∀ y ∈ T, y.length = 64)) ∧ Full sz ep lim L (k + 1) (lastE le l) (u :: ls)
theorem opRun_full {sz sg : Nat} (hsz : 0 < sz) {ep lim : Int} {L : List (List Nat)} : ∀ (segs : List (List It)) (k j : Nat) (le : Int), segs.length ≤ j → k + segs.length ≤ sg → Full sz ep lim L k le segs →
    opRun sz ep (segB 0 sg sz L) j ((sz * k : Nat) : Int) le = (tellAll sz k segs, ((sz * (k + segs.length - 1) : Nat) : Int) + itsN (segs.getLast?.getD []))
  | [], _, _, _, _, _, h => h.elim
  | [l], k, j, le, hj, hk, h => by
    obtain ⟨j, rfl⟩ : ∃ i, j = i + 1 := ⟨j - 1, by simp at hj; omega⟩
    obtain ⟨h1, h2, h3, h4, h5, h6, T, h7, h8, h9⟩ := h
    have hk : k < sg := by simp at hk; omega
    have h64 : ∀ x ∈ itsS ((sz * k : Nat) : Int) l ++ T, x.length = 64 := by
      intro x hx
      rcases List.mem_append.1 hx with hx | hx
      · exact itsS_64 _ _ x hx
      · exact h8 x hx
    have hrd : segB 0 sg sz L k = (itsS ((sz * k : Nat) : Int) l ++ T).flatten := by
      unfold segB
      rw [Nat.mod_eq_of_lt hk, Nat.zero_add, Nat.mul_comm k sz, h7]
    have hrun := opRun_seg hsz h64 hrd (lays_full l _ T h1 h8 (.inr h9)) (by omega) (by rw [List.take_length]; exact fits_M l 0 le h2 h6) j
    rw [hrun, List.take_length, if_neg (by rw [h3]; decide)]
    simp [tellAll]
  | l :: u :: ls, k, j, le, hj, hk, h => by
    obtain ⟨j, rfl⟩ : ∃ i, j = i + 1 := ⟨j - 1, by simp at hj; omega⟩
    obtain ⟨h1, h2, h3, h4, h5, h6, ⟨T, h7, h8⟩, h9⟩ := h
    have hk' : k < sg := by simp at hk; omega
    have h64 : ∀ x ∈ itsS ((sz * k : Nat) : Int) l ++ T, x.length = 64 := by
      intro x hx
      rcases List.mem_append.1 hx with hx | hx
      · exact itsS_64 _ _ x hx
      · exact h8 x hx
    have hrd : segB 0 sg sz L k = (itsS ((sz * k : Nat) : Int) l ++ T).flatten := by
      unfold segB
      rw [Nat.mod_eq_of_lt hk', Nat.zero_add, Nat.mul_comm k sz, h7]
    have hpos : 1 ≤ itsN l := by
      cases l with
      | nil => simp [endsIn] at h3
      | cons x l => have := itN_pos x; rw [itsN]; omega
    have hrun := opRun_seg (lim := -1) hsz h64 hrd (lays_full l _ T h1 h8 (.inl h3)) (by omega) (by rw [List.take_length]; exact fits_M l 0 le h2 (by omega)) j
    rw [hrun, List.take_length, if_pos h3, nextO_in hpos h5, opRun_full hsz (u :: ls) (k + 1) j (lastE le l) (by simp at hj ⊢; omega) (by simp at hk ⊢; omega) h9]
    simp only [tellAll, List.getLast?_cons_cons, List.length_cons]
    rw [show k + 1 + (ls.length + 1) - 1 = k + (ls.length + 1 + 1) - 1 by omega]
end Go.Proofs.Ytbbhchmdggfncaa


/-
  Behind what was found lies a later epoch's record: all of it is found. Plain functions over lists; no condition beyond each law's own premises.
-/
namespace Go.Proofs.Ytbbhchmdggfncaa
open Go.RowKit Go.Shelf
set_option linter.unusedSimpArgs false
set_option linter.unusedVariables false
set_option maxRecDepth 100000

/-- A segment that a switch has ended, where the least epoch is le. -/
structure Ended1 (sz : Nat) (ep : Int) (k : Nat) (le : Int) (l : List It) : Prop where
  ok : itsOk ((sz * k : Nat) : Int) l
  fit : fitsM sz ep 0 le l
  sw : endsIn l = true
  len : l.length ≤ sz
  n : itsN l ≤ sz
  e0 : 0 ≤ lastE le l
/-- The open segment, whose last epoch is above lim. -/
structure Open1 (sz : Nat) (ep lim : Int) (k : Nat) (le : Int) (l : List It) : Prop where
  ok : itsOk ((sz * k : Nat) : Int) l
  fit : fitsM sz ep 0 le l
  nosw : endsIn l = false
  ne : l ≠ []
  len : l.length ≤ sz
  n : itsN l < sz
  above : lim < lastE le l
theorem part_is {sz n k : Nat} (hsz : 0 < sz) {L : List (List Nat)} (hLn : L.length = n) (hk : sz * k + sz ≤ n) (hL : ∀ x ∈ L, x.length = 64) {segs : List (List It)} {i : Nat} {l : List It} (hi : segs[i]? = some l) (hki : i = k) (hn : itsN l ≤ sz) (h1 : ∀ (p : Nat) (y : List Nat), layAt sz segs p = some y → L[p]? = some y) :
    (L.drop (sz * k)).take sz = itsS ((sz * k : Nat) : Int) l ++ (L.drop (sz * k + itsN l)).take (sz - itsN l) ∧ ∀ y ∈ (L.drop (sz * k + itsN l)).take (sz - itsN l), y.length = 64 := by
  subst hki
  refine ⟨?_, fun y hy => hL y (List.mem_of_mem_drop (List.mem_of_mem_take hy))⟩
  have e : (L.drop (sz * i)).take (itsN l) = itsS ((sz * i : Nat) : Int) l := by
    apply List.ext_getElem?
    intro j
    rcases Nat.lt_or_ge j (itsN l) with h2 | h2
    · rw [S_at h2]
      have h3 := layAt_in hsz hi (show j < sz by omega)
      have h4 := List.getElem?_eq_getElem (l := itsS ((sz * i : Nat) : Int) l) (i := j) (by rw [itsS_len]; exact h2)
      rw [h4] at h3 ⊢
      exact h1 _ _ h3
    · rw [List.getElem?_eq_none (by rw [List.length_take]; omega), List.getElem?_eq_none (by rw [itsS_len]; exact h2)]
  rw [← e, ← List.drop_drop, ← List.take_add]
  congr 1
  omega
theorem full_of {sz n sg : Nat} (hsz : 0 < sz) {ep lim : Int} (hlim : -1 ≤ lim) {z : List Nat} (hz : (getN z).2 ≠ 0) {L : List (List Nat)} (hLn : L.length = n) (hL : ∀ x ∈ L, x.length = 64) (hn : sz * sg ≤ n) {segs : List (List It)} (h1 : ∀ (p : Nat) (y : List Nat), layAt sz segs p = some y → L[p]? = some y) (le : Nat → Int) {l2 : List It} :
    ∀ (pre : List (List It)) (k : Nat), k + pre.length + 1 ≤ sg → (∀ i, (pre ++ [l2])[i]? = segs[k + i]? ∨ pre.length < i) → (∀ (i : Nat) (l' : List It), pre[i]? = some l' → Ended1 sz ep (k + i) (le (k + i)) l' ∧ le (k + i + 1) = lastE (le (k + i)) l') →
    Open1 sz ep lim (k + pre.length) (le (k + pre.length)) l2 → (∀ y, L[sz * (k + pre.length) + itsN l2]? = some y → y = z ∨ (getN y).1.ep ≤ lim) → Full sz ep lim L k (le k) (pre ++ [l2])
  | [], k, hk, hs, _, ho, h2 => by
    simp only [List.length_nil, Nat.add_zero] at hk ho h2
    have hm : sz * k + sz ≤ n := by
      have : sz * (k + 1) ≤ sz * sg := Nat.mul_le_mul_left sz hk
      rw [Nat.mul_add] at this
      omega
    have hi : segs[k]? = some l2 := by
      rcases hs 0 with h | h
      · simpa using h.symm
      · simp at h
    obtain ⟨q1, q2⟩ := part_is hsz hLn hm hL hi rfl (by have := ho.n; omega) h1
    refine ⟨ho.ok, ho.fit, ho.nosw, ho.ne, ho.len, ho.above, _, q1, q2, ?_⟩
    intro e m r hst
    have hlt : sz * k + itsN l2 < L.length := by have := ho.n; omega
    have h3 := h2 _ (List.getElem?_eq_getElem hlt)
    have hT : (L.drop (sz * k + itsN l2)).take (sz - itsN l2) = L[sz * k + itsN l2] :: (L.drop (sz * k + itsN l2 + 1)).take (sz - itsN l2 - 1) := by
      rw [List.drop_eq_getElem_cons hlt]
      obtain ⟨c, hc⟩ : ∃ c, sz - itsN l2 = c + 1 := ⟨sz - itsN l2 - 1, by have := ho.n; omega⟩
      rw [hc, List.take_succ_cons]
      rfl
    rw [hT] at hst
    rcases h3 with h3 | h3
    · exfalso
      have h4 : standsN (((sz * k : Nat) : Int) + itsN l2) (L[sz * k + itsN l2] :: (L.drop (sz * k + itsN l2 + 1)).take (sz - itsN l2 - 1)).flatten = none := by
        unfold standsN
        rw [chunk_flat _ (fun y hy => by rw [← hT] at hy; exact q2 y hy)]
        have hr : gRun (gStart (((sz * k : Nat) : Int) + itsN l2)) (L[sz * k + itsN l2] :: (L.drop (sz * k + itsN l2 + 1)).take (sz - itsN l2 - 1)) = .inr ([], 0, (getN z).2) := by
          rw [h3]
          simp only [gRun]
          rw [gStep_bad hz]
        rw [hr]
        exact if_pos hz
      rw [h4] at hst
      cases hst
    · rw [stands_ep (hL _ (List.getElem_mem hlt)) hst]
      exact h3
  | l :: pre, k, hk, hs, hp, ho, h2 => by
    simp only [List.length_cons] at hk ho h2
    obtain ⟨he, hle⟩ := hp 0 l rfl
    rw [Nat.add_zero] at he hle
    have hm : sz * k + sz ≤ n := by
      have : sz * (k + 1) ≤ sz * sg := Nat.mul_le_mul_left sz (by omega)
      rw [Nat.mul_add] at this
      omega
    have hi : segs[k]? = some l := by
      rcases hs 0 with h | h
      · simpa using h.symm
      · simp at h
    obtain ⟨q1, q2⟩ := part_is hsz hLn hm hL hi rfl he.n h1
    have ih := full_of hsz hlim hz hLn hL hn h1 le pre (k + 1) (by omega) (fun i => by
      rcases hs (i + 1) with h | h
      · left
        rw [show k + 1 + i = k + (i + 1) by omega, ← h]
        rfl
      · right; simp at h; omega) (fun i l' hi => by
        have := hp (i + 1) l' (by simpa using hi)
        rw [show k + 1 + i = k + (i + 1) by omega]
        exact this) (by rw [show k + 1 + pre.length = k + (pre.length + 1) by omega]; exact ho) (by rw [show k + 1 + pre.length = k + (pre.length + 1) by omega]; exact h2)
    rw [hle] at ih
    cases hpl : pre ++ [l2] with
    | nil => simp at hpl
    | cons u ls =>
      rw [hpl] at ih
      rw [List.cons_append, hpl]
      exact ⟨he.ok, he.fit, he.sw, he.len, he.n, he.e0, ⟨_, q1, q2⟩, ih⟩
end Go.Proofs.Ytbbhchmdggfncaa
