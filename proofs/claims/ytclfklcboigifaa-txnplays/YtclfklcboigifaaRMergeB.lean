/-
  Merge, of package record: all writes are put in an order, whose entries are told.
-/
import Derived.Test.YtclfklcboigifaaRMerge
import Derived.Test.YtclfklcboigifaaRWs
import Derived.Test.YtclfklcboigifaaRClone
namespace Go.Proofs.Ytclfklcboigifaa
open Go.RowKit Go.Shelf
set_option linter.unusedSimpArgs false
set_option linter.unusedVariables false
attribute [local go_sem] Oper.semAt_some

theorem region_Sin {P : Program} {ops : Array Oper} {Q : Exit → Act → World → Prop} {a : Act} {w : World} {id lo n : Nat} (m : Nat) (hm : P.follows .mixedOrders = true) (hQ : ¬ LetsOut Q) (hnd : ops.all (fun o => match o.op with | .defer _ => false | _ => true) = true)
    (h : ∀ w', Kept (fun _ => False) w w' → w'.heap = w.heap → ∃ S : World → Prop, wpAnyM P .any ops Q S m ops.size (Array.replicate ops.size false) a w') : (Code.region id ops true).wpIn (Fence.wide.inRound lo) n P Q a w := by
  obtain ⟨S, h⟩ := h { w with drawn := w.drawn + 1 } ⟨rfl, rfl, rfl, Nat.le_refl _, fun _ _ _ => rfl⟩ rfl
  refine wpIn_region_any hm (wpAnyIn_of_wpAny hQ ?_ _ _ _ _ (wpAny_of_M _ _ _ _ h))
  intro i o ho c e
  have := Array.all_eq_true'.1 hnd o (Array.mem_of_getElem? ho)
  rw [e] at this
  cases this
section
variable {ρ : Operand → Value} {w : World} {dst : Option Tmp} {ty : TypeId} {pos : String} {aft : Array Edge} {gd : Option (Nat × Bool)} {x : Operand}
theorem r_ld22 {b o : Nat} {v : Value} (hx : ρ x = .pointer (some ⟨b, o, none⟩)) (hc : w.cell? ⟨b, o, none⟩ = some v) : (execOp ρ ⟨dst, .load 33 x, ty, pos, aft, gd⟩).run Try.prog w = .ok (.value v) w := by
  go_simp
end
theorem built40 {w : World} {ρ : Operand → Value} {dst : Option Tmp} {ty : TypeId} {pos : String} {aft : Array Edge} {gd : Option (Nat × Bool)} {a b : Operand} {k : Int} {sa : Option Addr} {sn sc : Nat} (ha : ρ a = .int .i64 k) (hb : ρ b = .slice sa sn sc) :
    (execOp ρ ⟨dst, .build 63 #[(0, a), (1, b)], ty, pos, aft, gd⟩).run Try.prog w = .ok (.value (.agg #[.int .i64 k, .slice sa sn sc])) w := by
  obtain ⟨i0, hi0, hz0, hs0, hb0⟩ := info_parts Try.info63
  have hpl : ∀ (fields : Array Field), Try.prog.underlying 63 = some (.struct fields) → fields.toList.mapM (fun f => (Try.prog.info? f.type).map fun i => (f.offset, i.size)) = some [(0, 1), (1, 1)] := by
    intro fields hf
    rw [Try.underlying63] at hf
    cases hf
    kernel_rfl
  exact (run_build_two (v1 := .int .i64 k) (v2 := .slice sa sn sc) (M1 := [.int .i64 k]) (M2 := [.slice sa sn sc]) hi0 hz0 Try.underlying63 (hpl _ Try.underlying63) ha hb rfl rfl rfl rfl (by simp [Value.cells]) (by simp [Value.cells])).trans (by simp [put, Value.cells])
theorem mem_foldV : ∀ (l m : List Wv) {y : Wv}, y ∈ foldV m l → y ∈ m ∨ y ∈ l
  | [], m, y, h => .inl h
  | x :: l, m, y, h => by
    rcases mem_foldV l (insV m x) h with h | h
    · rcases mem_insV h with h | h
      · exact .inr (by rw [h]; simp)
      · exact .inl h
    · exact .inr (List.mem_cons_of_mem _ h)
theorem foldV_snoc (m l : List Wv) (x : Wv) : foldV m (l ++ [x]) = insV (foldV m l) x := by unfold foldV; rw [List.foldl_append]; rfl
/-- All writes of some lists, one behind the other. -/
def allV (ls : List (Sl × List Wv)) : List Wv := (ls.map fun x => x.2).flatten
theorem allV_take (ls : List (Sl × List Wv)) (i : Nat) (hi : i < ls.length) : allV (ls.take (i + 1)) = allV (ls.take i) ++ ls[i].2 := by
  unfold allV
  rw [List.take_succ_eq_append_getElem hi, List.map_append, List.flatten_append]
  simp
theorem allV_len (ls : List (Sl × List Wv)) (i : Nat) : (allV (ls.take i)).length ≤ (allV ls).length := by
  conv => rhs; rw [← List.take_append_drop i ls]
  unfold allV
  rw [List.map_append, List.flatten_append, List.length_append]
  omega
theorem allV_mem {ls : List (Sl × List Wv)} {y : Wv} (h : y ∈ allV ls) : ∃ x ∈ ls, y ∈ x.2 := by
  unfold allV at h
  rw [List.mem_flatten] at h
  obtain ⟨l, hl, hy⟩ := h
  obtain ⟨x, hx, rfl⟩ := List.mem_map.1 hl
  exact ⟨x, hx, hy⟩

/-- The bytes of some writes lie in blocks from N on. -/
def NewWs (N : Nat) (ws : List Wv) : Prop := ∀ x ∈ ws, ∀ k, x.s.v.ownBlock = some k → N ≤ k
/-- The word of the loop of Merge. -/
def MergeI (w : World) (Bk : Nat) (m : List Wv) (pre : List EntB) (F : Nat → Prop) (W : World) : Prop :=
  ∃ kv ws, NewWs w.heap.size ws ∧ Blk W Bk [kv] 33 ∧ WsOwn W kv ws ∧ ws.map Wv.wr = (m.take pre.length).map Wv.wr ∧ F = footM Bk kv ∧ (∀ k, kv.ownBlock = some k → w.heap.size ≤ k) ∧ Kept (fun _ => False) w W
theorem MergeI.foot (w : World) (Bk B : Nat) (m : List Wv) (hB : w.heap.size ≤ B) : FootOk B (MergeI w Bk m) := by
  refine ⟨?_, ?_⟩
  · rintro pre F _ A C row ⟨kv, ws, hnw, hb, ho, hw, rfl, hge, hk⟩ hg hr
    have hkg := Kept.of_grown hg
    have hn : ∀ k, IsCells A k → ¬ row = some k := fun k hc e => by
      obtain ⟨_, o, h1, h2⟩ := hr k e
      exact hc.not_loop h1 h2
    refine ⟨kv, ws, hnw, hkg.blk hb (hn _ hb.isCells), ho.kept hkg (fun k hk => hn k (ownsRow_cells ho.1 hk)) (fun x hx k hk => hn k (ownsRow_cells (ho.2 x hx).1 hk)), hw, rfl, hge, hk.trans hkg (fun i hi e => ?_)⟩
    have := (hr i e).1
    omega
  · rintro pre F A ⟨kv, ws, hnw, hb, ho, hw, rfl, hge, hk⟩ k (rfl | h) hB'
    · exact hb.isCells
    · exact ownsRow_cells ho.1 h

set_option maxRecDepth 100000 in
set_option maxHeartbeats 8000000 in
theorem merge_at (w : World) (v : Value) (ls : List (Sl × List Wv)) (h : LsAt w v ls) (hn : (allV ls).length ≤ 1000000) (hB : ∀ y ∈ allV ls, y.B.length ≤ 90000000) :
    Calls Try.prog 24 #[v] w fun e w' => ∃ (t : Sl) (ws : List Wv), e = .returned (.slice t.a t.n t.c) ∧ WsOwn w' t.v ws ∧ ws.map Wv.wr = mergeW ((allV ls).map Wv.wr) ∧ ws.length ≤ 1000000 ∧ Kept (fun _ => False) w w' ∧ NewWs w.heap.size ws ∧ ∀ k, t.v.ownBlock = some k → w.heap.size ≤ k := by
  obtain ⟨ao, cap, rfl⟩ := h.slice
  have HL := hide h
  have HBs : Hid (∀ y ∈ allV ls, Src w y.s.v y.B ∧ y.B.length ≤ 90000000) := hide (fun y hy => by
    obtain ⟨x, hx, hyx⟩ := allV_mem hy
    exact ⟨(h.2.1 x hx).2.1 y hyx, hB y hy⟩)
  have hmax := h.2.2
  clear h hB
  refine (callsIn_wide (n := 4)).1 (callsIn_of_wp_marks Try.func24 rfl trivial (wpIn_wide.2 ?_) rfl)
  simp only [Try.ntmps24, List.size_toArray, List.length_cons, List.length_nil, Nat.reduceAdd, Nat.reduceSub, Array.replicate_succ, Array.replicate_zero, List.push_toArray, List.append_toArray, List.nil_append, List.cons_append]
  obtain ⟨ik, hik, hzk, hsk, hbk⟩ := info_parts Try.info33
  obtain ⟨i0, hi0, hz0, hs0, hb0⟩ := info_parts Try.info63
  have Hik := hide hik
  have Hzk := hide hzk
  have Hsk := hide hsk
  have Hi0 := hide hi0
  have Hz0 := hide hz0
  have Hs0 := hide hs0
  clear hik hzk hsk hbk hi0 hz0 hs0 hb0
  go_wp2_with fail
  refine (new_atB w).mono ?_
  rintro e w1 ⟨rfl, hm1, hk1⟩
  obtain ⟨p, hp⟩ : ∃ p, p = w.heap.size := ⟨_, rfl⟩
  rw [← hp] at hm1 ⊢
  have HO1 : Hid (OrdAt w w1 p []) := hide ⟨hk1, _, hm1, fun k hk => by
    rcases hk with h | h
    · omega
    · simp [Value.ownBlock] at h⟩
  clear hm1 hk1 hp
  go_wp2
  go_loopw [14] (fun iv wr => ∃ i : Nat, iv = .int .i64 i ∧ i ≤ ls.length ∧ Hid (OrdAt w wr p (foldV [] (allV (ls.take i)))))
    (fun iv _ => ls.length - (intOf iv).toNat)
  case atStart => exact ⟨0, rfl, Nat.zero_le _, HO1⟩
  case round =>
    obtain ⟨i, rfl, hi, HO⟩ := hrel
    clear HO1
    by_cases hlt : i < ls.length
    · obtain ⟨g, off, rfl, c0, hws⟩ := (HL.out.kept HO.out.1).get hlt
      have HA := hide (allV_take ls i hlt)
      have HAl := hide (allV_len ls (i + 1))
      obtain ⟨x, hx⟩ : ∃ x, x = ls[i] := ⟨_, rfl⟩
      rw [← hx] at c0 hws HA
      obtain ⟨⟨xa, xn, xc⟩, l⟩ := x
      simp only at c0 HA
      have hws' : WsAt wr (.slice xa xn xc) l := hws
      obtain rfl : xn = l.length := WsAt.len hws'
      have hlm := hws'.2.2
      have HX : Hid (∀ W, OrdAt w W p (foldV [] (allV (ls.take i))) → True) := hide (fun _ _ => trivial)
      have HWl : Hid (∀ W, Kept (fun _ => False) w W → WsAt W (.slice xa l.length xc) l) := hide (fun W hk => by
        have := HL.out.2.1 _ (List.getElem_mem hlt)
        rw [← hx] at this
        exact WsAt.kept this hk)
      clear hws hws' hx HX
      go_wp2
      go_loopw [20] (fun kv W => ∃ k : Nat, kv = .int .i64 k ∧ k ≤ l.length ∧ Hid (OrdAt w W p (foldV [] (allV (ls.take i) ++ l.take k))))
        (fun kv _ => l.length - (intOf kv).toNat)
      case atStart => exact ⟨0, rfl, Nat.zero_le _, by rw [List.take_zero, List.append_nil]; exact HO⟩
      case round =>
        clear c0 HO
        obtain ⟨k, rfl, hk, HOk⟩ := hrel
        by_cases hkt : k < l.length
        · obtain ⟨g', off', rfl, d0, d1, hsrc, hn'⟩ := (HWl.out _ HOk.out.1).get hkt
          have HT : Hid (insV (foldV [] (allV (ls.take i) ++ l.take k)) l[k] = foldV [] (allV (ls.take i) ++ l.take (k + 1))) := hide (by
            rw [List.take_succ_eq_append_getElem hkt, ← List.append_assoc, foldV_snoc])
          have HTl : Hid ((foldV [] (allV (ls.take i) ++ l.take k)).length ≤ 1000000) := hide (by
            have h1 := foldV_len (allV (ls.take i) ++ l.take k) []
            have h2 : (allV (ls.take i) ++ l.take k).length ≤ (allV (ls.take i) ++ l).length := by simp; omega
            rw [← HA.out] at h2
            have := HAl.out
            simp only [List.length_nil, Nat.zero_add] at h1
            omega)
          obtain ⟨x, hx⟩ : ∃ x, x = l[k] := ⟨_, rfl⟩
          rw [← hx] at d0 d1 HT
          obtain ⟨bk, ⟨ya, yn, yc⟩, yB⟩ := x
          simp only at d0 d1
          clear hsrc hn' hx
          go_wp2_with (first
            | ((with_reducible refine aw_alloc (t := 63) Hi0.out Hz0.out ?_); intro w2 hw2 hk2 hz2; have Hz2 := hide hz2; clear hz2 d0 d1)
            | ((with_reducible refine aw_store (M := [.int .i64 bk, .slice ya yn yc]) Try.agg63 rfl rfl rfl (by simp [Value.oneCell']) hw2 (by simp [Value.cells]) ?_); intro w3 hw3 hk3 hz3; rw [put_whole _ _ (by simp [Value.cells])] at hw3; have f0 : w3.cell? ⟨wr.heap.size, 0, none⟩ = some (.int .i64 bk) := hw3.cell 0; have f1 : w3.cell? ⟨wr.heap.size, 1, none⟩ = some (.slice ya yn yc) := hw3.cell 1; have HK3 := hide (hk2.trans hk3 (fun i hi h => by omega)); clear hz3 hw2 hw3 hk2 hk3)
            | fail)
          refine (oput w w3 p _ (HOk.out.kept HK3.out) ⟨bk, ⟨ya, yn, yc⟩, yB⟩ HTl.out).mono ?_
          rintro e w4 ⟨⟨bb, rfl⟩, ho4⟩
          rw [HT.out] at ho4
          have HO4 := hide ho4
          clear ho4 f0 f1 HK3 HOk HT HTl
          go_wp2
          go_roundw
          case rel => exact ⟨k + 1, by simp, by omega, HO4⟩
          case measure => simp [intOf]; omega
        · obtain rfl : l.length = k := by omega
          rw [List.take_length, ← HA.out] at HOk
          go_wp2
          go_roundw
          case rel => exact ⟨i + 1, by simp, by omega, HOk⟩
          case measure => simp [intOf]; omega
    · obtain rfl : ls.length = i := by omega
      rw [List.take_length] at HO
      clear hlt hi
      obtain ⟨m, hm⟩ : ∃ m, m = foldV [] (allV ls) := ⟨_, rfl⟩
      have HM1 : Hid (m.map Wv.wr = mergeW ((allV ls).map Wv.wr)) := hide (by rw [hm, foldV_wr]; rfl)
      have hml : m.length ≤ 1000000 := by
        have := foldV_len (allV ls) []
        rw [hm]
        simp only [List.length_nil, Nat.zero_add] at this
        omega
      have HMB : Hid (∀ y ∈ m, Src w y.s.v y.B ∧ y.B.length ≤ 90000000) := hide (fun y hy => by
        rw [hm] at hy
        rcases mem_foldV _ _ hy with h | h
        · cases h
        · exact HBs.out y h)
      rw [← hm] at HO
      clear hm HBs HL hn
      obtain ⟨hkr, mv, hmap, hge⟩ := HO.out
      have HMap := hide hmap
      have HGe := hide hge
      have hlt0 : ∀ k, footM p mv k → k < wr.heap.size := by
        rintro k (h' | h')
        · rw [h']; exact hmap.blk.lt
        · exact ownsRow_lt hmap.own k h'
      have HX2 := hide hlt0
      have hszw : w.heap.size ≤ wr.heap.size := hkr.size
      have HKr := hide hkr
      clear hmap hge hlt0 HO hkr
      go_wp2_with (first
        | ((with_reducible refine aw_alloc (t := 33) Hik.out Hzk.out ?_); intro w1' hb1 hk1 hz1; have Hz1 := hide hz1; clear hz1)
        | fail)
      refine (all_atB w1' _).mono ?_
      rintro e w2 ⟨rfl, hw2⟩
      have HW2 := hide hw2
      clear hw2
      have hkw2 : Kept (fun _ => False) w1' w2 := by rw [HW2.out]; exact Kept.alloc _ _ _
      have hbm : Blk w2 w1'.heap.size [.pointer (some ⟨p, 0, none⟩)] 89 := by rw [HW2.out]; exact Blk.newA w1' _ _
      have hsz2 : w2.heap.size = wr.heap.size + 2 := by rw [HW2.out]; simp [Hz1.out]
      have hk02 := hk1.trans hkw2 (fun _ _ h => h)
      have hbk : Blk w2 wr.heap.size [.slice none 0 0] 33 := hkw2.blk hb1 (fun h => h)
      have Hsz2 := hide hsz2
      have hlt2 : wr.heap.size < w2.heap.size := by omega
      have HK2 := hide (HKr.out.trans hk02 (fun _ _ h => h))
      clear hsz2 hb1
      go_wp2
      refine rangeF (gf := 47) (lb := #[.pointer (some ⟨w1'.heap.size, 0, none⟩)]) rfl (enters_of Try.func47 (by kernel_rfl) rfl) (encs := enc1B) (xs := m.map Wv.ent) (X := footM p mv) (fun W hk => all1_atB W _ p mv _ (hk.blk hbm (fun h => h)) (HMap.out.kept (hk02.trans hk (fun _ _ h => h)) (fun h => h) (fun _ _ h => h)) (by rw [List.length_map]; exact hml)) (fun _ => rfl)
        (MergeI w wr.heap.size m) (fun _ _ _ => False) (MergeI.foot w wr.heap.size _ m (by omega)) (fun _ _ _ _ _ _ h _ _ => h) (footM wr.heap.size (.slice none 0 0)) (fun k hk => by
          rcases hk with h | h
          · omega
          · simp [Value.ownBlock] at h) (fun k hk => ⟨by have := HX2.out k hk; omega, fun h => by
          rcases h with h | h
          · have := HX2.out k hk; omega
          · simp [Value.ownBlock] at h⟩)
        ⟨_, [], (by intro x hx; cases hx), hbk, WsOwn.nil _, rfl, rfl, fun k h => by simp [Value.ownBlock] at h, HK2.out⟩
        (fun x a' W' => a' = { tmps := #[.slice ao ls.length cap, undef, .slice none 0 0, .pointer (some ⟨p, 0, none⟩), undef, u5, undef, u7, .pointer (some ⟨wr.heap.size, 0, none⟩), .int .i64 x.1, .slice x.2.a x.2.n x.2.c, .pointer (some ⟨p, 0, none⟩), .slice ao ls.length cap, .int .i64 ls.length, .int .i64 ls.length, .bool false, u16, u17, u18, u19, u20, u21, u22, u23, u24, u25, u26, u27, u28, u29, u30, u31, .pointer (some ⟨p, 0, none⟩), .func (.func 47) #[] #[.pointer (some ⟨w1'.heap.size, 0, none⟩)], .int .i64 x.1, .slice x.2.a x.2.n x.2.c, undef, undef, undef, undef, undef, undef, undef, undef], defers := [] })
        (fun _ _ _ _ _ _ h _ _ => h) ?assign ?body ?done ?stop
      case assign =>
        intro lp n pre x F A K hI hK
        obtain ⟨k, ⟨sa, sn, sc⟩⟩ := x
        simp only [enc1B]
        have HKK := hide hK
        clear hK
        gi_wp2
        exact HKK.out _ A (Kept.refl _ _) rfl
      case body =>
        rintro lp n pre x post F a' A hxs ⟨kv, ws, hnw, hb, ho, hw, rfl, hge, hk⟩ rfl
        obtain ⟨k, ⟨sa, sn, sc⟩⟩ := x
        have hlen : pre.length < m.length := by
          have := congrArg List.length hxs
          simp at this
          omega
        have hel : (m[pre.length]).ent = (k, ⟨sa, sn, sc⟩) := by
          have h1 : (m.map Wv.ent)[pre.length]? = some (k, ⟨sa, sn, sc⟩) := by rw [hxs]; simp
          rw [List.getElem?_map, List.getElem?_eq_getElem hlen] at h1
          simpa using h1
        have HTk : Hid (m.take (pre.length + 1) = m.take pre.length ++ [m[pre.length]]) := hide (List.take_succ_eq_append_getElem hlen)
        obtain ⟨y, hy⟩ : ∃ y, y = m[pre.length] := ⟨_, rfl⟩
        have hym : y ∈ m := by rw [hy]; exact List.getElem_mem hlen
        rw [← hy] at HTk hel
        obtain ⟨yk, ys, yB⟩ := y
        simp only [Wv.ent, Prod.mk.injEq] at hel
        obtain ⟨rfl, rfl⟩ := hel
        obtain ⟨hsrc, hyl⟩ := HMB.out _ hym
        simp only at hsrc hyl
        have HSr := hide (hsrc.kept hk)
        have HB := hide hb
        have HNW := hide hnw
        have HO := hide ho
        have HW := hide hw
        have HG := hide hge
        have HKA := hide hk
        clear hb ho hw hge hxs hk hy hym hsrc hnw
        gi_wp2
        refine hold_frame (p := fun fr => Code.wpIn (Fence.wide.inRound lp) n Try.prog _ _ fr _) ?_
        intro fr hfr
        have e8 : fr.eval (.tmp 8) = .pointer (some ⟨wr.heap.size, 0, none⟩) := by rw [hfr.out]; rfl
        have e9 : fr.eval (.tmp 9) = .int .i64 yk := by rw [hfr.out]; rfl
        have e10 : fr.eval (.tmp 10) = .slice sa sn sc := by rw [hfr.out]; rfl
        have hts : fr.tmps.size = 44 := by rw [hfr.out]; rfl
        refine region_Sin 7 Try.mixed (fun ⟨_, _, h⟩ => h) (by kernel_rfl) ?_
        intro w0 hkw hheap
        have hS0 := hkw.blk HB.out (fun h => h)
        refine ⟨fun U => Blk U wr.heap.size [kv] 33, ?_⟩
        refine tkS 0 36 (v := kv) hS0 rfl rfl (by kernel_rfl) (by kernel_rfl) (by kernel_rfl) (by kernel_rfl) (wanted_none rfl) (fun _ _ _ h => h) (fun U hU => r_ld22 (b := wr.heap.size) (o := 0) (by simp [eval_put_ne, eval_put_eq, size_put, hts, e8]) (hU.cell 0)) ?_
        refine tkS 1 37 (v := .int .i64 yk) hS0 rfl rfl (by kernel_rfl) (by kernel_rfl) (by kernel_rfl) (by kernel_rfl) (wanted_none rfl) (fun _ _ _ h => h) (fun U hU => r_move (by simp [eval_put_ne, eval_put_eq, size_put, hts, e9])) ?_
        refine tkS 2 38 (v := .slice sa sn sc) hS0 rfl rfl (by kernel_rfl) (by kernel_rfl) (by kernel_rfl) (by kernel_rfl) (wanted_none rfl) (fun _ _ _ h => h) (fun U hU => r_move (by simp [eval_put_ne, eval_put_eq, size_put, hts, e10])) ?_
        refine oneCS 3 39 (by kernel_rfl) rfl rfl (wanted_none rfl) (r_call1 Try.func31 (by kernel_rfl) rfl rfl (by simp [eval_put_ne, eval_put_eq, size_put, hts])) (bclone_at w0 (.slice sa sn sc) yB (HSr.out.kept hkw) hyl) ?_
        rintro e wc ⟨s, rfl, hown, hkc, hsn⟩
        have hSc := hkc.blk hS0 (fun h => h)
        refine ⟨_, rfl, hSc, ?_⟩
        refine tkS 4 40 (v := .agg #[.int .i64 yk, .slice s.a s.n s.c]) hSc rfl rfl (by kernel_rfl) (by kernel_rfl) (by kernel_rfl) (by kernel_rfl) (wanted_none rfl) (fun _ _ _ h => h) (fun U hU => built40 (by simp [eval_put_ne, eval_put_eq, size_put, hts]) (by simp [eval_put_ne, eval_put_eq, size_put, hts])) ?_
        have hbA := Blk.new wc [.int .i64 yk, .slice s.a s.n s.c] 63
        have hkA : Kept (fun _ => False) wc (wc.alloc (.cells [.int .i64 yk, .slice s.a s.n s.c].toArray 63)) := Kept.alloc _ _ _
        refine oneVS 5 41 (v := .slice (some ⟨wc.heap.size, 0, none⟩) 1 1) (by kernel_rfl) rfl rfl (wanted_none rfl) (run_buildSlice_one (M := [.int .i64 yk, .slice s.a s.n s.c]) Try.underlying33 Hi0.out Hz0.out Hs0.out (by simp) (by simp) (.inl (by simp [eval_put_ne, eval_put_eq, size_put, hts]))) (hkA.blk hSc (fun h => h)) ?_
        generalize wc.alloc (.cells [.int .i64 yk, .slice s.a s.n s.c].toArray 63) = wd at hbA hkA ⊢
        have hkA3 : Kept (fun _ => False) A wd := (hkw.trans hkc (fun _ _ h => h)).trans hkA (fun _ _ h => h)
        have hne : kv.ownBlock ≠ some wr.heap.size := ownsRow_blk_ne HO.out.1 HB.out (by decide)
        have hwsl : ws.length ≤ 1000000 := by
          have := congrArg List.length HW.out
          simp at this
          omega
        obtain ⟨v', wf, hr, hso, hkf, hsb⟩ := (HO.out.keptF hkA3).snoc ⟨yk, s, yB⟩ (hown.kept hkA (fun _ _ h => h)) hbA hwsl 33
        obtain ⟨⟨ta, tn, tc⟩, rfl⟩ := hso.sl
        have HB4 : Blk wf wr.heap.size [kv] 33 := hkf.blk (hkA.blk hSc (fun h => h)) hne
        simp only [Sl.v] at hr hso hsb
        refine oneVS 6 42 (v := .slice ta tn tc) (by kernel_rfl) rfl rfl (wanted_none rfl) (r_app (by simp [eval_put_ne, eval_put_eq, size_put, hts]) (by simp [eval_put_ne, eval_put_eq, size_put, hts]) hr) HB4 ?_
        refine lastS (by kernel_rfl) rfl (wanted_none rfl) (run_store_one (v := .slice ta tn tc) (off := 0) Hik.out Hsk.out (by simp [eval_put_ne, eval_put_eq, size_put, hts, e8]) (by simp [eval_put_ne, eval_put_eq, size_put, hts]) rfl rfl HB4 (by simp)) (by kernel_rfl) ?_
        have hks := Kept.setRow (S := fun k => k = wr.heap.size) wf wr.heap.size (List.set [kv] 0 (.slice ta tn tc)).toArray rfl
        have hkAA : Kept (footM wr.heap.size kv) A (wf.setRow wr.heap.size (List.set [kv] 0 (.slice ta tn tc)).toArray) := ((hkA3.mono (T := footM wr.heap.size kv) (fun _ _ h => h.elim)).trans hkf (fun _ _ h => .inr h)).trans hks (fun _ _ h => .inl h)
        refine ⟨footM wr.heap.size (.slice ta tn tc), ⟨_, ws ++ [⟨yk, s, yB⟩], ?_, HB4.setRow _, ?_, ?_, rfl, ?_, ?_⟩, hkAA, ?_⟩
        · intro x hx k hk
          rcases List.mem_append.1 hx with hx | hx
          · exact HNW.out x hx k hk
          · rw [List.mem_singleton] at hx
            subst hx
            exact Nat.le_trans (HKA.out.trans hkw (fun _ _ h => h)).size (hsn k hk)
        · exact hso.keptB HB4 (by decide) (by decide) (Kept.setRow (S := fun k => k = wr.heap.size) _ _ _ rfl)
        · rw [List.map_append, HW.out, List.length_append, List.length_singleton, HTk.out, List.map_append]
          rfl
        · intro j hj
          rcases hsb with h | h
          · rw [h] at hj; exact HG.out j hj
          · rw [h] at hj; cases hj; have := HKA.out.size; have := hkA3.size; omega
        · refine HKA.out.trans hkAA (fun j hj h => ?_)
          rcases h with h | h
          · omega
          · have := HG.out j h; omega
        · rintro j (h | h)
          · exact .inl (.inl h)
          · rcases hsb with h' | h'
            · rw [h'] at h; exact .inl (.inr h)
            · rw [h'] at h; cases h; have := hkA3.size; exact .inr (by omega)
      case done =>
        rintro D F A hD hI hK
        have hI2 := ownU_put ((MergeI.foot w wr.heap.size w2.heap.size m (by omega)).own _ _) (.deferred none) hI (by omega) hK rfl
        obtain ⟨kv, ws, hnw, hb, ho, hw, rfl, hge, hk⟩ := hI
        have c0 : A.cell? ⟨wr.heap.size, 0, none⟩ = some kv := hb.cell 0
        obtain ⟨kv2, ws2, hnw2, hb2, ho2, hw2, _, hge2, hk2⟩ := hI2
        have hbD : Blk (A.putObj D (.deferred none)) wr.heap.size [kv] 33 := (Kept.putObj _ _ _).blk hb (fun e => by
          unfold Blk at hb
          rw [e, hK] at hb
          cases hb)
        obtain rfl : kv2 = kv := by have := (hb2.same hbD).1; simpa using this
        obtain ⟨⟨ta, tn, tc⟩, rfl⟩ := ho2.sl
        have HO2 := hide ho2
        have HNW2 := hide hnw2
        have HGE2 := hide hge2
        have HK2' := hide hk2
        have HW2' := hide hw2
        have hwl : ws2.length = m.length := by
          have := congrArg List.length hw2
          simpa using this
        clear hb ho hge hk hb2 ho2 hge2 hk2 hbD hw hw2 hnw hnw2
        simp only [Sl.v] at c0
        go_wp2
        refine ⟨by simp, .inl ⟨_, _, rfl, run_takeDeferred hK, ?_⟩⟩
        refine ⟨_, results_tmp rfl _ _ _, ?_⟩
        refine ⟨⟨ta, tn, tc⟩, rfl, ws2, HO2.out, ?_, by omega, HK2'.out, HNW2.out, HGE2.out⟩
        rw [HW2'.out, ← HM1.out, List.length_map, List.take_length]
      case stop =>
        rintro D pre F A hD hpre hJA hK
        exact hJA.elim
end Go.Proofs.Ytclfklcboigifaa
