/-
  The iterators Down and From; Count.
-/
import Derived.Test.YtkchlmpfegjkfaaFloor
namespace Go.Proofs.Ytkchlmpfegjkfaa
open Go.RowKit Go.Shelf
set_option linter.unusedSimpArgs false
set_option linter.unusedVariables false
attribute [local go_sem] Oper.semAt_some

theorem rev_get {α : Type} (l : List α) (m : Nat) (h : m < l.length) : l.zipIdx.reverse[l.length - (m + 1)]'(by simp; omega) = (l[m], m) := by
  simp
  constructor
  · congr 1
    omega
  · omega
theorem rev_succ {α : Type} (l : List α) (m : Nat) (h : m < l.length) : l.zipIdx.reverse.take (l.length - m) = l.zipIdx.reverse.take (l.length - (m + 1)) ++ [(l[m], m)] := by
  have h1 : l.length - (m + 1) < l.zipIdx.reverse.length := by simp; omega
  have h2 := List.take_succ_eq_append_getElem h1
  rw [rev_get l m h] at h2
  rw [show l.length - m = l.length - (m + 1) + 1 by omega]
  exact h2
theorem rev_split {α : Type} (l : List α) (m : Nat) (h : m < l.length) : l.zipIdx.reverse = l.zipIdx.reverse.take (l.length - (m + 1)) ++ (l[m], m) :: l.zipIdx.reverse.drop (l.length - (m + 1) + 1) := by
  have h1 : l.length - (m + 1) < l.zipIdx.reverse.length := by simp; omega
  have h2 := List.take_append_drop (l.length - (m + 1)) l.zipIdx.reverse
  rw [List.drop_eq_getElem_cons h1, rev_get l m h] at h2
  exact h2.symm
theorem rev_fst {α : Type} (l : List α) : l.zipIdx.reverse.map (·.1) = l.reverse := by
  rw [List.map_reverse, zip_fst]

set_option maxRecDepth 100000 in
set_option maxHeartbeats 2000000 in
theorem sback1 (W : World) (Bs : Nat) (v : Value) (l : List EntI) (hb : Blk W Bs [v] 57) (hs : SrcEI W v l) (hl : l.length ≤ 1000000) :
    SeqAt Try.prog 67 #[.pointer (some ⟨Bs, 0, none⟩)] enc2I l.zipIdx.reverse (fun k => k = Bs ∨ vX v k) W := by
  intro yv J Jx F0 hyv hJ hJx hF0 hX hY h0
  obtain ⟨ao, cap, rfl, hcap, hsrc⟩ := hs
  have HJ := hide hJ
  have HY := hide hY
  have HX := hide hX
  have HSrc := hide hsrc
  have H0 := hide h0
  have HB := hide hb
  have c : W.cell? ⟨Bs, 0, none⟩ = some (.slice ao l.length cap) := hb.cell 0
  clear hJ hJx hY hX hsrc h0 hyv hb
  show Calls Try.prog 67 #[yv, .pointer (some ⟨Bs, 0, none⟩)] W (Ended J Jx l.zipIdx.reverse)
  refine (callsIn_wide (n := 4)).1 (callsIn_of_wp Try.func67 rfl trivial ?_ rfl)
  simp only [Try.ntmps67, List.size_toArray, List.length_cons, List.length_nil, Nat.reduceAdd, Nat.reduceSub, Array.replicate_succ, Array.replicate_zero, List.push_toArray, List.append_toArray, List.nil_append, List.cons_append]
  gi_wp2
  gi_loopw [3] (fun i wr => ∃ (k : Nat) (F : Nat → Prop), i = .int .i64 ((k : Int) - 1) ∧ k ≤ l.length ∧ Hid (J (l.zipIdx.reverse.take (l.length - k)) F wr) ∧ Hid (Blk wr Bs [.slice ao l.length cap] 57 ∧ ¬ F Bs) ∧ Hid (∀ g off, ao = some ⟨g, off, none⟩ → 0 < l.length → ¬ F g ∧ Cells wr g off (encE ekI evI l)))
    (fun i _ => (intOf i + 1).toNat)
  case atStart => exact ⟨l.length, F0, rfl, Nat.le_refl _, hide (by rw [Nat.sub_self]; exact H0.out), hide ⟨HB.out, HX.out _ (.inl rfl)⟩, hide (fun g off he h => by
    obtain ⟨g', off', he', hc⟩ := HSrc.out h
    rw [he] at he'
    cases he'
    exact ⟨HX.out g (.inr ⟨off, _, _, by rw [he]⟩), hc⟩)⟩
  case round =>
    obtain ⟨k, F, rfl, hk, hJk, hbk, hsk⟩ := hrel
    clear c
    cases k with
    | succ m =>
      have hlt : m < l.length := hk
      have em : ((m + 1 : Nat) : Int) - 1 = (m : Int) := by omega
      rw [em]
      obtain ⟨g, off, rfl, _⟩ := HSrc.out (by omega)
      obtain ⟨hFg, hcs⟩ := hsk.out g off rfl (by omega)
      have cb : wr.cell? ⟨Bs, 0, none⟩ = some (.slice (some ⟨g, off, none⟩) l.length cap) := hbk.out.1.cell 0
      have c0 : wr.cell? ⟨g, off + m * 2, none⟩ = some (.int .i64 l[m].1) := hcs _ _ (encE_key l m hlt)
      have c1 : wr.cell? ⟨g, off + m * 2 + 1, none⟩ = some (.string l[m].2) := hcs _ _ (encE_val l m hlt)
      have Hzs := hide (rev_succ l m hlt)
      have Hzp := hide (rev_split l m hlt)
      have HCs := hide hcs
      obtain ⟨x, hx⟩ : ∃ x, x = l[m] := ⟨_, rfl⟩
      rw [← hx] at c0 c1 Hzs Hzp
      clear hx hcs hsk em
      gi_wp2_with (with_reducible refine stopi_val ?_)
      refine hide ?_
      have hyc := HY.out _ (x, m) _ F wr Hzp.out hJk.out
      try simp only [put_lit, List.set_cons_succ, List.set_cons_zero]
      refine ai_yc (yv := yv) (vy := .int .i64 (m : Nat)) (vz := .agg #[.int .i64 x.1, .string x.2]) rfl rfl rfl hyc ?_
      rintro e w4 ⟨F', hcase, hk4, hF'⟩
      have hgl : g < wr.heap.size := by
        have h := HCs.out _ _ (encE_key l m hlt)
        exact World.block_lt_of_cell? wr _ h
      have HS4 : Hid (∀ g' off', some (⟨g, off, none⟩ : Addr) = some ⟨g', off', none⟩ → 0 < l.length → ¬ F' g' ∧ Cells w4 g' off' (encE ekI evI l)) := hide (fun g' off' he h => by
        cases he
        refine ⟨fun hg => ?_, hk4.cells HCs.out hFg⟩
        rcases hF' g hg with h | h
        · exact hFg h
        · omega)
      have HBk4 : Hid (Blk w4 Bs [.slice (some ⟨g, off, none⟩) l.length cap] 57 ∧ ¬ F' Bs) := hide ⟨hk4.blk hbk.out.1 hbk.out.2, fun h => by
        rcases hF' Bs h with h | h
        · exact hbk.out.2 h
        · have := hbk.out.1.lt; omega⟩
      rw [← Hzs.out] at hcase
      rcases hcase with ⟨rfl, hJ4⟩ | ⟨rfl, hJ4⟩
      · have HJ4 := hide hJ4
        clear hJ4 hyc hk4 hF' HJ HY HX HSrc H0 hJk c0 c1 cb
        refine ⟨_, rfl, ?_⟩
        try simp only [put_lit, List.set_cons_succ, List.set_cons_zero]
        gi_wp2
        go_roundw
        case rel => exact ⟨m, F', rfl, by omega, HJ4, HBk4, HS4⟩
        case measure => simp [intOf]
      · have HJ4 := hide hJ4
        have Hpre : Hid (∃ post, l.zipIdx.reverse = l.zipIdx.reverse.take (l.length - m) ++ post) := hide ⟨_, (List.take_append_drop _ _).symm⟩
        clear hJ4 hyc hk4 hF' HJ HY HX HSrc H0 hJk c0 c1 cb
        refine ⟨_, rfl, ?_⟩
        try simp only [put_lit, List.set_cons_succ, List.set_cons_zero]
        gi_wp2
        refine bodyPost_ret (results_none rfl _ _ _) rfl ?_
        exact ⟨⟨_, rfl⟩, .inr ⟨_, F', Hpre.out, HJ4.out⟩⟩
    | zero =>
      have em : ((0 : Nat) : Int) - 1 = -1 := by omega
      rw [em]
      clear em
      gi_wp2
      go_end0
      refine ⟨⟨_, rfl⟩, .inl ⟨F, ?_⟩⟩
      have := hJk.out
      rwa [Nat.sub_zero, List.take_of_length_le (by simp)] at this

set_option maxHeartbeats 400000 in
theorem sback_at (w : World) (ao : Option Addr) (n c : Nat) : Calls Try.prog 54 #[.slice ao n c] w fun e w' => e = .returned (.func (.func 67) #[] #[.pointer (some ⟨w.heap.size, 0, none⟩)]) ∧ w' = w.alloc (.cells #[.slice ao n c] 57) := by
  go_enter Try.func54, Try.ntmps54
  go_wp2
  go_ret
  exact ⟨rfl, rfl⟩
set_option maxHeartbeats 400000 in
theorem down_at (w : World) (po : Option Addr) : Calls Try.prog 33 #[.pointer po] w fun e w' => e = .returned (.func (.func 53) #[] #[.pointer (some ⟨w.heap.size, 0, none⟩)]) ∧ w' = w.alloc (.cells #[.pointer po] 24) := by
  go_enter Try.func33, Try.ntmps33
  go_wp2
  go_ret
  exact ⟨rfl, rfl⟩
set_option maxHeartbeats 400000 in
theorem from_at (w : World) (po : Option Addr) (k : Int) : Calls Try.prog 35 #[.pointer po, .int .i64 k] w fun e w' => e = .returned (.func (.func 55) #[] #[.pointer (some ⟨w.heap.size, 0, none⟩), .pointer (some ⟨w.heap.size + 1, 0, none⟩)]) ∧ w' = (w.alloc (.cells #[.pointer po] 24)).alloc (.cells #[.int .i64 k] 3) := by
  go_enter Try.func35, Try.ntmps35
  go_wp2
  go_ret
  exact ⟨by simp, rfl⟩

/-- tell over a slice of entries, told by a closure of slices.All or slices.Backward that is made at W. -/
theorem tell_made (W w1 : World) (gf : Nat) (xs : List (EntI × Nat)) (ao : Option Addr) (n cap : Nat) (X : Nat → Prop) (eg : ∀ args w, (callFunc gf args).run Try.prog w = .ok (.enter gf args) w) (hw1 : w1 = W.alloc (.cells #[.slice ao n cap] 57))
    (hs : ∀ W', Kept (fun _ => False) W W' → Blk W' W.heap.size [.slice ao n cap] 57 → SeqAt Try.prog gf #[.pointer (some ⟨W.heap.size, 0, none⟩)] enc2I xs (fun k => k = W.heap.size ∨ vX (.slice ao n cap) k) W') (hX1 : ∀ k, vX (.slice ao n cap) k → X k) (hX2 : ∀ k, X k → k < W.heap.size)
    (yv : Value) (J Jx : List EntI → (Nat → Prop) → World → Prop) (F0 : Nat → Prop) (hyv : yv.cells = #[yv]) (hJ : FootOk W.heap.size J) (hJx : ∀ pre F, OwnFrom W.heap.size (fun (_ : Unit) W => Jx pre F W)) (hF0 : ∀ k, F0 k → k < W.heap.size) (hX : ∀ k, X k → ¬ F0 k)
    (hY : ∀ pre x post F W1, xs.map (·.1) = pre ++ x :: post → J pre F W1 → YC Try.prog yv #[.int .i64 x.1, .string x.2] W1 (Yielded J Jx (pre ++ [x]) F W1)) (h0 : J [] F0 W) :
    Calls Try.prog 51 #[.func (.func gf) #[] #[.pointer (some ⟨W.heap.size, 0, none⟩)], yv] w1 (Ended J Jx (xs.map (·.1))) := by
  have hk : Kept (fun _ => False) W w1 := by rw [hw1]; exact Kept.alloc _ _ _
  have hb : Blk w1 W.heap.size [.slice ao n cap] 57 := by rw [hw1]; exact Blk.newA W _ _
  have hsz : w1.heap.size = W.heap.size + 1 := by rw [hw1]; simp
  exact tell_atI w1 gf #[.pointer (some ⟨W.heap.size, 0, none⟩)] xs (fun k => k = W.heap.size ∨ vX (.slice ao n cap) k) eg
    (fun W' hk' => hs W' (hk.trans hk' (fun _ _ h => h)) (hk'.blk hb (fun h => h)))
    (by
      rintro k (h | h)
      · omega
      · have := hX2 k (hX1 k h); omega)
    yv J Jx F0 hyv ⟨fun pre F => ownU_le (hJ.own pre F) (by omega), fun pre F A hA k hk hB => hJ.cells pre F A hA k hk (by omega)⟩ (fun pre F => ownU_le (hJx pre F) (by omega)) (fun k hk => by have := hF0 k hk; omega)
    (by
      rintro k (h | h) hf
      · have := hF0 k hf; omega
      · exact hX k (hX1 k h) hf)
    hY (ownU_kept (hJ.own _ _) hk h0)

set_option maxRecDepth 100000 in
set_option maxHeartbeats 1000000 in
theorem down1_at (W : World) (Bm p : Nat) (v : Value) (l : List EntI) (hbm : Blk W Bm [.pointer (some ⟨p, 0, none⟩)] 24) (hm : MapI W p v l) (hl : l.length ≤ 1000000) :
    SeqAt Try.prog 53 #[.pointer (some ⟨Bm, 0, none⟩)] enc1I l.reverse (footM p v) W := by
  intro yv J Jx F0 hyv hJ hJx hF0 hX hY h0
  have c : W.cell? ⟨Bm, 0, none⟩ = some (.pointer (some ⟨p, 0, none⟩)) := hbm.cell 0
  have HL := hide (list_atI W p v hm.blk)
  have hown := hm.own
  obtain ⟨ao, cap, rfl, hcap, hsrc⟩ := own_srcI hm.own
  have HT : Hid (∀ w1, w1 = W.alloc (.cells #[.slice ao l.length cap] 57) → Calls Try.prog 51 #[.func (.func 67) #[] #[.pointer (some ⟨W.heap.size, 0, none⟩)], yv] w1 (Ended J Jx l.reverse)) := hide (by
    rintro w1 hw1
    have h := tell_made W w1 67 l.zipIdx.reverse ao l.length cap (footM p (.slice ao l.length cap)) (enters_of Try.func67 (by kernel_rfl) rfl) hw1
      (fun W' hk' hb' => sback1 W' W.heap.size (.slice ao l.length cap) l hb' ⟨ao, cap, rfl, hcap, fun h => by obtain ⟨g, off, he, hc⟩ := hsrc h; exact ⟨g, off, he, hk'.cells hc (fun h => h)⟩⟩ hl)
      (fun k hk => .inr (own_vX hown hk))
      (by
        rintro k (h | h)
        · rw [h]; exact hm.blk.lt
        · exact ownsRow_lt hown k h)
      yv J Jx F0 hyv hJ hJx hF0 hX (by rw [rev_fst]; exact hY) h0
    rw [rev_fst] at h
    exact h)
  clear hJ hJx hF0 hX hY h0 hbm hm hsrc hown hyv
  show Calls Try.prog 53 #[yv, .pointer (some ⟨Bm, 0, none⟩)] W (Ended J Jx l.reverse)
  go_enter Try.func53, Try.ntmps53
  go_wp2_with fail
  refine HL.out.mono ?_
  rintro e w1 ⟨rfl, rfl⟩
  go_wp2_with fail
  refine (sback_at W ao l.length cap).mono ?_
  rintro e w1 ⟨rfl, hw1⟩
  have HT1 := hide (HT.out w1 hw1)
  clear HT hw1
  go_wp2_with fail
  refine HT1.out.mono ?_
  rintro e w2 ⟨⟨u, rfl⟩, hend⟩
  have HE := hide hend
  clear hend
  go_wp2
  go_end0
  exact ⟨⟨_, rfl⟩, HE.out⟩

set_option maxRecDepth 100000 in
set_option maxHeartbeats 1000000 in
theorem from1_at (W : World) (Bm Bk p : Nat) (v : Value) (l : List EntI) (k : Int) (hbm : Blk W Bm [.pointer (some ⟨p, 0, none⟩)] 24) (hbk : Blk W Bk [.int .i64 k] 3) (hm : MapI W p v l) (hl : l.length ≤ 1000000) :
    SeqAt Try.prog 55 #[.pointer (some ⟨Bm, 0, none⟩), .pointer (some ⟨Bk, 0, none⟩)] enc1I (l.drop (posK ltI l k)) (footM p v) W := by
  intro yv J Jx F0 hyv hJ hJx hF0 hX hY h0
  have c : W.cell? ⟨Bm, 0, none⟩ = some (.pointer (some ⟨p, 0, none⟩)) := hbm.cell 0
  have ck : W.cell? ⟨Bk, 0, none⟩ = some (.int .i64 k) := hbk.cell 0
  have HF := hide (find_atI W p v l k hm hl)
  have hle := posK_le ltI l k
  have HBm := hide hbm
  have HM := hide hm
  have HT : Hid (∀ W2 w1 ao n cap, Kept (fun _ => False) W W2 → w1 = W2.alloc (.cells #[.slice ao n cap] 57) → SrcEI W2 (.slice ao n cap) (l.drop (posK ltI l k)) → (∀ j, vX (.slice ao n cap) j → footM p v j) → Calls Try.prog 51 #[.func (.func 66) #[] #[.pointer (some ⟨W2.heap.size, 0, none⟩)], yv] w1 (Ended J Jx (l.drop (posK ltI l k)))) := hide (by
    rintro W2 w1 ao n cap hk2 hw1 hsrc hv
    have hs2 := hk2.size
    have h := tell_made W2 w1 66 (l.drop (posK ltI l k)).zipIdx ao n cap (footM p v) (enters_of Try.func66 (by kernel_rfl) rfl) hw1
      (fun W' hk' hb' => by
        obtain ⟨ao', cap', he, hcap, hsrc⟩ := hsrc
        exact sall1I W' W2.heap.size (.slice ao n cap) (l.drop (posK ltI l k)) hb' ⟨ao', cap', he, hcap, fun h => by obtain ⟨g, off, he, hc⟩ := hsrc h; exact ⟨g, off, he, hk'.cells hc (fun h => h)⟩⟩ (by simp; omega))
      hv
      (by
        rintro j (h | h)
        · rw [h]; have := hm.blk.lt; omega
        · have := ownsRow_lt hm.own j h; omega)
      yv J Jx F0 hyv ⟨fun pre F => ownU_le (hJ.own pre F) (by omega), fun pre F A hA k hk hB => hJ.cells pre F A hA k hk (by omega)⟩ (fun pre F => ownU_le (hJx pre F) (by omega)) (fun k hk => by have := hF0 k hk; omega) hX (by rw [zip_fst]; exact hY) (ownU_kept (hJ.own _ _) hk2 h0)
    rw [zip_fst] at h
    exact h)
  clear hJ hJx hF0 hX hY h0 hbm hbk hm hyv
  obtain ⟨a, ha⟩ : ∃ a, a = posK ltI l k := ⟨_, rfl⟩
  rw [← ha] at HF HT hle ⊢
  generalize hasK ltI l k = bb at HF
  clear ha
  show Calls Try.prog 55 #[yv, .pointer (some ⟨Bm, 0, none⟩), .pointer (some ⟨Bk, 0, none⟩)] W (Ended J Jx (l.drop a))
  obtain ⟨i0, hi0, hz0, hs0, hb0⟩ := info_parts Try.info62
  have Hi0 := hide hi0
  have Hs0 := hide hs0
  clear hi0 hz0 hs0 hb0
  go_enter Try.func55, Try.ntmps55
  go_wp2_with fail
  refine HF.out.mono ?_
  rintro e w2 ⟨rfl, hk2⟩
  have HM2 := hide (HM.out.kept hk2 (fun h => h) (fun _ _ h => h))
  have c2 : w2.cell? ⟨Bm, 0, none⟩ = some (.pointer (some ⟨p, 0, none⟩)) := (hk2.blk HBm.out (fun h => h)).cell 0
  clear c ck
  go_wp2_with fail
  refine (list_atI w2 p v HM2.out.blk).mono ?_
  rintro e w3 ⟨rfl, rfl⟩
  rcases ownsRow_blk HM2.out.own with ⟨rfl, h0, _⟩ | ⟨g, cap, C, rfl, hb, hnc, hcm, hC⟩
  · obtain rfl : l = [] := List.eq_nil_of_length_eq_zero h0
    obtain rfl : a = 0 := by simpa using hle
    have HT1 := hide (HT.out w2 _ none 0 0 hk2 rfl ⟨none, 0, rfl, by simp, fun h => by simp at h⟩ (fun j ⟨off, n, c, h⟩ => by cases h))
    clear HT
    go_wp2_with fail
    refine (sall_atI w2 none 0 0).mono ?_
    rintro e w1 ⟨rfl, rfl⟩
    go_wp2_with fail
    refine HT1.out.mono ?_
    rintro e w2 ⟨⟨u, rfl⟩, hend⟩
    have HE := hide hend
    clear hend
    go_wp2
    go_end0
    exact ⟨⟨_, rfl⟩, HE.out⟩
  · obtain ⟨so, hso⟩ : ∃ so, so = if cap = a then 0 else 0 + a * 2 := ⟨_, rfl⟩
    have HT1 := hide (HT.out w2 _ (some ⟨g, so, none⟩) (l.length - a) (cap - a) hk2 rfl ⟨_, _, by rw [List.length_drop], by rw [List.length_drop]; omega, fun h => ⟨g, so, rfl, by
      rw [List.length_drop] at h
      rw [hso, if_neg (by omega), Nat.zero_add, encE_drop]
      have h1 := hb.cells (a * 2) ((l.length - a) * 2)
      rw [List.drop_append_of_le_length (by rw [encE_length]; omega), List.take_append_of_le_length (by rw [List.length_drop, encE_length]; omega), List.take_of_length_le (by rw [List.length_drop, encE_length]; omega)] at h1
      exact h1⟩⟩ (fun j ⟨off, n, c, h⟩ => by cases h; exact .inr rfl))
    unfold maxLen at hcm
    have Hso := hide hso
    clear HT hb hC hso
    go_wp2_with (with_reducible refine stop_slice 57 ?_)
    refine hide ?_
    refine aw_slice_any (k := .i64) Try.underlying57 Hi0.out 2 Hs0.out rfl a (by rfl) hle so Hso.out ?_
    try simp only [put_lit, List.set_cons_succ, List.set_cons_zero]
    go_wp2_with fail
    refine (sall_atI w2 (some ⟨g, so, none⟩) (l.length - a) (cap - a)).mono ?_
    rintro e w1 ⟨rfl, rfl⟩
    go_wp2_with fail
    refine HT1.out.mono ?_
    rintro e w2 ⟨⟨u, rfl⟩, hend⟩
    have HE := hide hend
    clear hend
    go_wp2
    go_end0
    exact ⟨⟨_, rfl⟩, HE.out⟩

end Go.Proofs.Ytkchlmpfegjkfaa
