/-
  ImageStays, over writes.
-/
import Derived.Test.YtlpjhgcafkdhdaaIFirst
import Derived.Test.YtlpjhgcafkdhdaaRWs
namespace Go.Proofs.Ytlpjhgcafkdhdaa
open Go.RowKit Go.Shelf
set_option linter.unusedSimpArgs false
set_option linter.unusedVariables false
set_option maxRecDepth 100000

/-- A write is built, and laid in a list of its own. -/
theorem aw_wb1 {ops : Array Oper} {Q : Exit → Act → World → Prop} {a : Act} {w : World} {rest : List Oper} {ty ty2 : TypeId} {pos pos2 : String} {aft aft2 : Array Edge} {x y : Operand} {d1 d2 : Nat} (p : Int) (s : Sl) (hx : a.eval x = .int .i64 p) (hy : a.eval y = .slice s.a s.n s.c) (hd : (a.put (some d1) (.agg #[.int .i64 p, .slice s.a s.n s.c])).eval (.tmp d1) = .agg #[.int .i64 p, .slice s.a s.n s.c])
    (h : ∀ w', Blk w' w.heap.size [.int .i64 p, .slice s.a s.n s.c] 53 → Kept (fun _ => False) w w' → w'.heap.size = w.heap.size + 1 → wpList Try.prog ops Q rest ((a.put (some d1) (.agg #[.int .i64 p, .slice s.a s.n s.c])).put (some d2) (.slice (some ⟨w.heap.size, 0, none⟩) 1 1)) w') :
    wpList Try.prog ops Q (⟨some d1, .build 53 #[(0, x), (1, y)], ty, pos, aft, none⟩ :: ⟨some d2, .buildSlice 36 1 #[(0, .tmp d1)], ty2, pos2, aft2, none⟩ :: rest) a w := by
  obtain ⟨i0, hi0, hz0, hs0, hb0⟩ := info_parts Try.info53
  refine wpList_run rfl (run_build_two (o1 := 0) (s1 := 1) (o2 := 1) (s2 := 1) (M1 := [.int .i64 p]) (M2 := [.slice s.a s.n s.c]) hi0 hz0 Try.underlying53 (by kernel_rfl) hx hy rfl rfl rfl rfl (by simp [Value.cells]) (by simp [Value.cells])) ?_
  have e : (put (put (Value.cells (.agg #[.int .i64 0, .slice none 0 0])).toList 0 [.int .i64 p]) 1 [.slice s.a s.n s.c]).toArray = #[.int .i64 p, .slice s.a s.n s.c] := by simp [put, Value.cells]
  rw [e]
  refine wpList_run rfl (run_buildSlice_one (M := [.int .i64 p, .slice s.a s.n s.c]) Try.underlying36 hi0 hz0 hs0 (by simp) (by simp) (.inl hd)) ?_
  exact h _ (Blk.new w _ 53) (Kept.alloc _ _ _) (by simp)
/-- Two bools of equal texts. -/
theorem own_store {w : World} {s : Sl} {B : List Nat} (ho : Own w 0 s.v B) (h0 : 0 < B.length) : ∃ g L, s.a = some ⟨g, 0, none⟩ ∧ s.n = B.length ∧ Blk w g L 5 ∧ B.length ≤ L.length ∧ (∀ k, k < B.length → L[k]? = (BV B)[k]?) := by
  rcases ownsRow_blk ho.1 with ⟨_, h, _⟩ | ⟨g, cap, C, e, hb, hnc, hcm, hC⟩
  · omega
  · obtain ⟨a, n, c⟩ := s
    simp only [Sl.v, Value.slice.injEq] at e
    obtain ⟨rfl, rfl, rfl⟩ := e
    exact ⟨g, _, rfl, rfl, hb, by simp [BV_length], fun k hk => by rw [List.getElem?_append_left (by rw [BV_length]; exact hk)]⟩

set_option maxRecDepth 100000 in
set_option maxHeartbeats 8000000 in
theorem stays_at (w : World) (q : Nat) (hq : q < 256) (v : Value) (l : List Wv) (hl : WsAt w v l) : Calls Try.prog 5 #[.int .u8 q, v] w fun e w' => e = .returned (.bool true) ∧ Kept (fun _ => False) w w' := by
  obtain ⟨ao, cap, rfl⟩ := hl.slice
  have HL := hide hl
  have hmax := hl.2.2
  clear hl
  by_cases hbig : 60 < l.length
  · have hI : (60 : Int) < l.length := by omega
    generalize l.length = n at *
    go_enter Try.func5, Try.ntmps5
    go_wp2_with (go_at_call 7; refine (first_at _).mono ?_; rintro e w1 ⟨rfl, hk1⟩)
    go_ret
    exact ⟨rfl, hk1⟩
  have hI : ¬ (60 : Int) < l.length := by omega
  obtain ⟨n, hn⟩ : ∃ n, l.length = n := ⟨_, rfl⟩
  have HN := hide hn
  obtain ⟨r, hr⟩ : ∃ r, r = q % 8 := ⟨_, rfl⟩
  obtain ⟨m, hm⟩ : ∃ m, m = 1 + r := ⟨_, rfl⟩
  have hm8 : 1 ≤ m ∧ m ≤ 8 := by omega
  have h1 : (q : Int) % 8 = r := by omega
  have h2 : (q : Int).tmod 8 = r := by rw [Int.tmod_eq_emod_of_nonneg (by omega)]; exact h1
  have h3 : (1 : Int) + r = (m : Int) := by omega
  have hr8 : (r : Int) < 8 := by omega
  have HM8 := hide hm8
  rw [hn] at hI hbig hmax ⊢
  clear hn hr hm hm8
  obtain ⟨va, hva⟩ : ∃ va, va = Value.slice ao n cap := ⟨_, rfl⟩
  have HLv : Hid (WsAt w va l) := hide (by rw [hva, ← HN.out]; exact HL.out)
  clear HL
  go_enter Try.func5, Try.ntmps5
  go_wp2_with (first
    | (go_at_call 7; refine (first_at _).mono ?_; rintro e w1 ⟨rfl, hk1⟩; have K1 := hide hk1; clear hk1)
    | fail)
  have HM : Hid (1 ≤ m ∧ m ≤ 64) := hide (by have := HM8.out; omega)
  refine (new_ok w1 m HM.out).mono ?_
  rintro e w2 ⟨d, rfl, hk2, hd2⟩
  obtain ⟨pd, rfl, -⟩ := hd2.ptr
  have K2 := hide (K1.out.trans hk2 (fun _ _ h => h))
  obtain ⟨D, hD⟩ : ∃ D, D = List.replicate (64 * m) 0 := ⟨_, rfl⟩
  rw [← hD] at hd2
  have D2 := hide hd2
  clear hk2 hd2 hD K1 h1 h2 h3 hr8 hq
  subst hva
  go_wp2_with fail
  refine (with_at w2 _ m D D2.out HM.out.1 _ l (HLv.out.kept K2.out)).mono ?_
  rintro e w3 ⟨a, rfl, hwi, hk3⟩
  have K3 := hide (K2.out.trans hk3 (fun _ _ h => h))
  have D3 := hide (D2.out.kept hk3)
  have HLt := hide (fun (x : Nat) (hx : x ∈ withB D (l.map Wv.wr)) => withB_lt (l := l.map Wv.wr) (B := D) D2.out.lt (fun w hw => by
    obtain ⟨y, hy, rfl⟩ := List.mem_map.1 hw
    exact (HLv.out.2.1 y hy).lt) x hx)
  by_cases he : withE m (l.map Wv.wr) = 0
  · have hA3 := hwi.1 he
    obtain ⟨pa, rfl, hpa⟩ := hA3.ptr
    obtain ⟨A, hA⟩ : ∃ A, A = withB D (l.map Wv.wr) := ⟨_, rfl⟩
    rw [← hA] at hA3
    rw [he]
    have A3 := hide hA3
    clear hwi hk3 hA3 he hpa K2 D2 hA
    have hback := back_all D3.out.len A3.out.len
    have hkl : ∀ k ∈ diffB m D m A, k < m := fun k hk => (diff_mem.1 hk).1
    have hksl := diffTo_len m D m A (max m m)
    obtain ⟨ks, hks⟩ : ∃ ks, ks = diffB m D m A := ⟨_, rfl⟩
    rw [← hks] at hback hkl
    rw [show diffTo m D m A (max m m) = ks from hks.symm] at hksl
    have HBack := hide hback
    have HKl := hide hkl
    have HKs := hide hks
    have HKsl : Hid (ks.length ≤ 8) := hide (by have := HM8.out; omega)
    clear hback hkl hks hksl
    go_wp2_with (first
      | (go_at_call 12; refine (bytes_at w3 _ m A A3.out).mono ?_; rintro e w4 ⟨sw, rfl, hsw, hk4⟩; have SW := hide hsw; have K4 := hide (K3.out.trans hk4 (fun _ _ h => h)); have D4 := hide (D3.out.kept hk4); have A4 := hide (A3.out.kept hk4); clear hsw hk4 K3 D3 A3)
      | (with_reducible refine stop_convertG 28 9 ?_)
      | fail)
    refine hide ?_
    refine wpList_run rfl (r_strS rfl SW.out.src) ?_
    try simp only [put_lit, put_none, List.set_cons_succ, List.set_cons_zero]
    go_wp2_with fail
    refine (diff_at w4 _ _ m m D A D4.out A4.out).mono ?_
    rintro e w5 ⟨vd, rfl, hg5⟩
    rw [← HKs.out] at hg5
    obtain ⟨oa, oc, rfl⟩ := ownsRow_slice hg5.1
    have K5 := hide (K4.out.trans hg5.2.2 (fun _ _ h => h))
    have D5 := hide (D4.out.kept hg5.2.2)
    have A5 := hide (A4.out.kept hg5.2.2)
    have G5 := hide hg5.src
    clear hg5 K4 D4 A4 SW
    obtain ⟨kn, hkn⟩ : ∃ kn, ks.length = kn := ⟨_, rfl⟩
    have HKn := hide hkn
    rw [hkn]
    have hkn8 : kn ≤ 8 := by have := HKsl.out; omega
    clear hkn
    go_wp2_with fail
    go_loopw [10, 48] (fun o i wr => ∃ (k : Nat) (bl : List Wv), i = .int .i64 k ∧ k ≤ kn ∧ Hid (WsOwn wr o bl) ∧ Hid (bl.map Wv.wr = backL D (ks.take k)) ∧ Hid (∀ j, o.ownBlock = some j → w5.heap.size ≤ j) ∧ Hid (Kept (fun _ => False) w5 wr))
      (fun o i _ => kn - (intOf i).toNat)
    case atStart => exact ⟨0, [], rfl, Nat.zero_le _, hide (WsOwn.nil _), hide rfl, hide (by simp [Value.ownBlock]), hide (Kept.refl _ _)⟩
    case round =>
      obtain ⟨k, bl, rfl, hk, HO, HB, HF, HKr⟩ := hrel
      obtain ⟨so, rfl⟩ := HO.out.sl
      by_cases hlt : k < kn
      · have hkk : k < ks.length := by rw [HKn.out]; exact hlt
        obtain ⟨j, hj⟩ : ∃ j, j = ks[k] := ⟨_, rfl⟩
        have HJ := hide hj
        have hjm : j < m := by rw [hj]; exact HKl.out _ (List.getElem_mem hkk)
        obtain ⟨gg, gf, rfl, c0⟩ := srcv_int (G5.out.kept HKr.out (fun _ _ h => h)) hkk
        rw [← hj] at c0
        have HGt := hide (get_ok wr _ m D (D5.out.kept HKr.out) j hjm)
        have HTk := hide (show ks.take (k + 1) = ks.take k ++ [j] by rw [List.take_succ_eq_append_getElem hkk, hj])
        have hlen : bl.length ≤ 8 := by
          have := congrArg List.length HB.out
          simp [backL] at this
          have := HKsl.out
          omega
        have HLen := hide hlen
        clear hj hlen hjm
        go_wp2_with (first
          | (go_at_call 9; refine HGt.out.mono ?_; rintro e wa ⟨s, rfl, hs, hka⟩; have HS := hide hs; have HKa := hide hka; clear hs hka HGt c0)
          | (with_reducible refine stop_build 53 ?_)
          | fail)
        refine hide ?_
        refine aw_wb1 (j : Int) s rfl rfl rfl ?_
        intro wb hwb hkb hzb
        have HOb := hide ((HO.out.keptF HKa.out).keptF hkb)
        have HSb := hide (HS.out.kept hkb)
        obtain ⟨v', wc, hr, ho2, hk2, hv2⟩ := HOb.out.snoc ⟨j, s, getB D j⟩ HSb.out.1 hwb (by have := HLen.out; omega) 36
        have HR := hide hr
        have HOc := hide ho2
        have hkab := (HKa.out.trans hkb (fun _ _ h => h))
        have HKc : Hid (Kept (fun _ => False) w5 wc) := hide ((HKr.out.trans hkab (fun _ _ h => h)).trans hk2 (fun i hi h => by have := HF.out i h; omega))
        have HFc : Hid (∀ j, v'.ownBlock = some j → w5.heap.size ≤ j) := hide (fun j hj => by
          rcases hv2 with h | h
          · exact HF.out j (by rw [← h]; exact hj)
          · rw [h] at hj; cases hj
            have := HKr.out.size; have := hkab.size; omega)
        have HBc : Hid ((bl ++ [(⟨j, s, getB D j⟩ : Wv)]).map Wv.wr = backL D (ks.take (k + 1))) := hide (by rw [List.map_append, HB.out, HTk.out]; simp [backL, Wv.wr])
        obtain ⟨s', rfl⟩ := ho2.sl
        clear hwb hkb hzb hr ho2 hk2 hv2 hkab
        try simp only [put_lit, put_none, List.set_cons_succ, List.set_cons_zero]
        go_wp2_with (first | (with_reducible refine stop_append2 36 36 ?_) | fail)
        refine hide ?_
        refine wpList_run rfl (r_app rfl rfl HR.out) ?_
        try simp only [put_lit, put_none, List.set_cons_succ, List.set_cons_zero]
        go_wp2
        go_roundw
        case rel => exact ⟨k + 1, _, by simp, by omega, HOc, HBc, HFc, HKc⟩
        case measure => simp [intOf]; omega
      · obtain rfl : k = kn := by omega
        have hall : bl.map Wv.wr = backL D ks := by rw [HB.out, List.take_of_length_le (by rw [HKn.out]; exact Nat.le_refl _)]
        have HAll := hide hall
        have hlen : bl.length ≤ 8 := by
          have := congrArg List.length hall
          simp [backL] at this
          have := HKsl.out
          omega
        have HW := hide (HO.out.at (by omega))
        have Dr := hide (D5.out.kept HKr.out)
        have Ar := hide (A5.out.kept HKr.out)
        have Kr := hide (K5.out.trans HKr.out (fun _ _ h => h))
        clear hall hlen
        go_wp2_with fail
        refine (with_at wr _ m A Ar.out HM.out.1 _ bl HW.out).mono ?_
        rintro e w6 ⟨z, he6, hwi, hk6⟩
        rw [HAll.out, HBack.out.1] at he6
        subst he6
        have hz := hwi.1 (by rw [HAll.out]; exact HBack.out.1)
        rw [HAll.out, HBack.out.2] at hz
        obtain ⟨pz, rfl, -⟩ := hz.ptr
        have Z6 := hide hz
        have D6 := hide (Dr.out.kept hk6)
        have A6 := hide (Ar.out.kept hk6)
        have K6 := hide (Kr.out.trans hk6 (fun _ _ h => h))
        clear hwi hk6 hz Dr Ar Kr
        go_wp2_with fail
        refine (get_ok w6 _ m A A6.out 0 (by have := HM.out; omega)).mono ?_
        rintro e w7 ⟨s, rfl, hs, hk7⟩
        have Z7 := hide (Z6.out.kept hk7)
        have D7 := hide (D6.out.kept hk7)
        have A7 := hide (A6.out.kept hk7)
        have K7 := hide (K6.out.trans hk7 (fun _ _ h => h))
        have hlen0 := getB_len A6.out.len (show 0 < m by have := HM.out; omega)
        obtain ⟨g0, L0, hsa, hsn, hb0, hL1, hL2⟩ := own_store hs.1 (by omega)
        have hlt0 : g0 ≥ w6.heap.size := hs.2 g0 (by rw [Sl.v, hsa]; rfl)
        obtain ⟨x0, hx0⟩ : ∃ x0 : Nat, (BV (getB A 0))[0]? = some (.int .u8 x0) ∧ x0 < 256 := ⟨(getB A 0)[0], BV_get _ _ (by omega), getB_lt A6.out.lt 0 _ (List.getElem_mem _)⟩
        have c0 : w7.cell? ⟨g0, 0, none⟩ = some (.int .u8 x0) := by rw [hb0.cell, hL2 0 (by omega)]; exact hx0.1
        obtain ⟨sa, sn, sc⟩ := s
        simp only at hsa hsn
        subst hsa
        rw [hlen0] at hsn
        subst hsn
        have HB0 := hide hb0
        have HL1 := hide hL1
        have Hlt0 := hide hlt0
        have Hlen0 := hide hlen0
        clear hs hk7 hb0 hL1 hL2 hlt0 hlen0 Z6 D6 A6
        go_wp2_with (first | (with_reducible refine stop_store 5 ?_) | fail)
        refine hide ?_
        obtain ⟨i5, hi5, hz5, hs5, hb5⟩ := info_parts Try.info5
        refine aw_store1 (v := .int .u8 _) hi5 hs5 rfl rfl rfl rfl HB0.out (by have := HL1.out; have := Hlen0.out; omega) ?_
        intro w8 hw8 hk8 hz8
        have Z8 := hide (Z7.out.keptB HB0.out (by decide) (by decide) hk8)
        have D8 := hide (D7.out.keptB HB0.out (by decide) (by decide) hk8)
        have A8 := hide (A7.out.keptB HB0.out (by decide) (by decide) hk8)
        have K8 := hide (K7.out.trans hk8 (fun i hi h => by have := K6.out.size; have := Hlt0.out; omega))
        clear hw8 hk8 hz8 hi5 hz5 hs5 hb5 c0 Z7 D7 A7 K7 hx0
        try simp only [put_lit, put_none, List.set_cons_succ, List.set_cons_zero]
        go_wp2_with fail
        refine (same_at w8 _ _ m m _ _ Z8.out D8.out true (by simp)).mono ?_
        rintro e w9 ⟨rfl, hk9⟩
        have A9 := hide (A8.out.kept hk9)
        have K9 := hide (K8.out.trans hk9 (fun _ _ h => h))
        clear hk9
        go_wp2_with fail
        refine (bytes_at w9 _ m A A9.out).mono ?_
        rintro e w10 ⟨sb, rfl, hsb, hk10⟩
        have SB := hide hsb.src
        have K10 := hide (K9.out.trans hk10 (fun _ _ h => h))
        clear hsb hk10
        go_wp2_with (first | (with_reducible refine stop_convertG 28 9 ?_) | fail)
        refine hide ?_
        refine wpList_runG rfl (r_strS rfl SB.out) ?_
        try simp only [put_lit, put_none, List.set_cons_succ, List.set_cons_zero]
        go_wp2
        go_ret
        exact ⟨rfl, K10.out⟩
  · have hn := hwi.2 he
    subst hn
    obtain ⟨ee, hee⟩ : ∃ ee, withE m (l.map Wv.wr) = ee := ⟨_, rfl⟩
    rw [hee] at he ⊢
    clear hwi hk3 hee HLt D3 K2 D2
    have he2 : (ee != 0) = true := by simpa using he
    go_wp2
    go_ret
    exact ⟨rfl, K3.out⟩
end Go.Proofs.Ytlpjhgcafkdhdaa
