/-
  Read, of package control.
-/
import Derived.Test.YtapoagpkjngjpaaCtWr
namespace Go.Proofs.Ytapoagpkjngjpaa
open Go.RowKit Go.Shelf
set_option linter.unusedSimpArgs false
set_option linter.unusedVariables false
set_option maxRecDepth 100000

theorem r_mid22 {ρ : Operand → Value} {w : World} {dst : Option Tmp} {ty : TypeId} {pos : String} {aft : Array Edge} {gd : Option (Nat × Bool)} {x y z : Operand} {sb so len cap : Nat} (l h : Nat) {k j : IntKind} (hx : ρ x = .slice (some ⟨sb, so, none⟩) len cap) (hy : ρ y = .int k l) (hz : ρ z = .int j h) (hl : l < h) (hh : h ≤ cap) :
    (execOp ρ ⟨dst, .slice 24 x (some y) (some z) none, ty, pos, aft, gd⟩).run Try.prog w = .ok (.value (.slice (some ⟨sb, so + l, none⟩) (h - l) (cap - l))) w := by
  obtain ⟨i5, hi5, hz5, hs5, hb5⟩ := info_parts Try.info5
  have g1 : (0 : Int) ≤ (h : Int) ∧ (h : Int) ≤ (cap : Int) := by omega
  have g2 : (0 : Int) ≤ (l : Int) ∧ (l : Int) ≤ (h : Int) := by omega
  have g3 : l ≤ h := by omega
  have hc : ¬ cap = l := by omega
  simp [execOp, Instr.sliceAt, run_underlying Try.underlying24, Instr.slice, hx, hy, hz, Instr.sliceBounds, Instr.sliceBound, asIntOf, g1, g2, g3, hh, sizeOf, typeInfo, hi5, hc, hs5, addr_add]

theorem ct_part {w : World} {g : Nat} {A B : List Nat} {t : TypeId} (h : Blk w g (BV (A ++ B)) t) (hA : A.length = 64 ∧ B.length = 64 ∧ (∀ x ∈ A, x < 256) ∧ ∀ x ∈ B, x < 256) : Src w (.slice (some ⟨g, 0, none⟩) 64 128) A ∧ Src w (.slice (some ⟨g, 64, none⟩) 64 64) B := by
  obtain ⟨h1, h2, h3, h4⟩ := hA
  refine ⟨⟨_, 128, by rw [h1], by omega, h3, fun _ => ⟨g, 0, rfl, ?_⟩, fun h => by cases h⟩, ⟨_, 64, by rw [h2], by omega, h4, fun _ => ⟨g, 64, rfl, ?_⟩, fun h => by cases h⟩⟩
  · have := h.cells 0 64
    rw [List.drop_zero, BV_append, List.take_left' (by rw [BV_length]; exact h1)] at this
    exact this
  · have := h.cells 64 64
    rw [BV_append, List.drop_left' (by rw [BV_length]; exact h1), List.take_of_length_le (by rw [BV_length]; omega)] at this
    exact this
set_option maxHeartbeats 8000000 in
theorem ctread_at (w : World) (b n : Nat) (s : D.DS) (F : Nat → Prop) (h : D.DevAt w b n s F) (p : Nat) (hp : p + 2 ≤ n) (ho : s.off = false) (A B : List Nat) (hAB : A.length = 64 ∧ B.length = 64 ∧ (∀ x ∈ A, x < 256) ∧ ∀ x ∈ B, x < 256) (hv : D.part s.view p 2 = BV (A ++ B))
    (r : Ct) (er : Int) (hr : resC (twoC A B) = (r, er)) :
    Calls Try.prog 17 #[.pointer (some ⟨b, 0, none⟩), .int .i64 p] w fun e w' => e = .returned (.tuple #[ctAgg r, .int .i64 er]) ∧ Kept (fun _ => False) w w' := by
  obtain ⟨i23, hi23, hz23, hs23, hb23⟩ := info_parts Try.info23
  have Hi23 := hide hi23
  have Hz23 := hide hz23
  have HD := hide h
  have HRd : Hid (∀ w, D.DevAt w b n s F → Calls Try.prog 38 #[.pointer (some ⟨b, 0, none⟩), .int .i64 p, .int .i64 2] w fun e w' => ∃ g, e = .returned (.tuple #[.slice (some ⟨g, 0, none⟩) 128 128, .int .i64 0]) ∧ Blk w' g (BV (A ++ B)) 5 ∧ Kept (fun _ => False) w w' ∧ w.heap.size ≤ g) := hide (fun w h => by
    have := D.read_ok w b n s F h p 2 ho hp
    rw [hv] at this
    exact this)
  have HAB := hide hAB
  have HA : Hid (A.length = 64) := hide hAB.1
  have HB : Hid (B.length = 64) := hide hAB.2.1
  have HByA := hide hAB.2.2.1
  have HByB := hide hAB.2.2.2
  obtain ⟨cur1, h1⟩ : ∃ c, c = pickC 0 ct0 A := ⟨_, rfl⟩
  obtain ⟨cur2, h2⟩ : ∃ c, c = pickC 1 cur1 B := ⟨_, rfl⟩
  have hr2 : resC cur2 = (r, er) := by rw [h2, h1]; exact hr
  have H1 := hide h1
  have H2 := hide h2
  have HRes := hide hr2
  clear hi23 hz23 hs23 hb23 h hp ho hAB hv hr h1 h2 hr2
  go_enter Try.func17, Try.ntmps17
  go_wp2_with (first
    | ((with_reducible refine aw_alloc (dst := some 4) Hi23.out Hz23.out ?_); intro w1 hb1 hk1 hz1; have Yz1 := hide hz1; clear hz1)
    | fail)
  refine (HRd.out w1 (HD.out.kept hk1 (fun _ _ h => h))).mono ?_
  rintro e w2 ⟨g, rfl, hg2, hk2, hgl⟩
  go_wp2_with (first
    | ((with_reducible refine aw_alloc (dst := some 8) Hi23.out Hz23.out ?_); intro w3 hb3 hk3 hz3; have Yz3 := hide hz3; clear hz3)
    | fail)
  obtain ⟨rb, hrb⟩ : ∃ x, x = w.heap.size := ⟨_, rfl⟩
  obtain ⟨cb, hcb⟩ : ∃ x, x = w2.heap.size := ⟨_, rfl⟩
  rw [← hrb] at hb1 ⊢
  rw [← hcb] at hb3 ⊢
  have HC0 : Hid (Blk w3 cb (ctV ct0) 23) := hide hb3
  have HG0 := hide (hk3.blk hg2 (fun h => h))
  have HR0 : Hid (Blk w3 rb (ctV ct0) 23) := hide (hk3.blk (hk2.blk hb1 (fun h => h)) (fun h => h))
  have HK0 := hide ((hk1.trans hk2 (fun _ _ h => h)).trans hk3 (fun _ _ h => h))
  have HL : Hid (w.heap.size ≤ cb) := hide (by have := hk1.size; have := hk2.size; omega)
  have HLr : Hid (w.heap.size ≤ rb) := hide (by omega)
  have HNe : Hid (cb ≠ rb) := hide (by have := hk2.size; have := hb1.lt; omega)
  clear hb1 hg2 hb3 hk1 hk2 hk3 hgl hrb hcb Yz1 Yz3 HRd HD
  go_wp2
  go_loopw [22] (fun iv wr => (iv = .int .i64 0 ∧ Hid (Blk wr cb (ctV ct0) 23) ∧ Hid (Blk wr g (BV (A ++ B)) 5) ∧ Hid (Blk wr rb (ctV ct0) 23) ∧ Hid (Kept (fun _ => False) w wr)) ∨ (iv = .int .i64 1 ∧ Hid (Blk wr cb (ctV cur1) 23) ∧ Hid (Blk wr g (BV (A ++ B)) 5) ∧ Hid (Blk wr rb (ctV ct0) 23) ∧ Hid (Kept (fun _ => False) w wr)) ∨ (iv = .int .i64 2 ∧ Hid (Blk wr cb (ctV cur2) 23) ∧ Hid (Blk wr g (BV (A ++ B)) 5) ∧ Hid (Blk wr rb (ctV ct0) 23) ∧ Hid (Kept (fun _ => False) w wr)))
    (fun i _ => 2 - (intOf i).toNat)
  case atStart => exact .inl ⟨rfl, HC0, HG0, HR0, HK0⟩
  case round =>
    clear HC0 HG0 HR0 HK0
    rcases hrel with ⟨rfl, HC, HG, HR, HK⟩ | ⟨rfl, HC, HG, HR, HK⟩ | ⟨rfl, HC, HG, HR, HK⟩
    · skip
      have HGt := hide (ctget_at wr (.slice (some ⟨g, 0, none⟩) 64 128) A (ct_part HG.out HAB.out).1 (by rw [HA.out]; decide))
      obtain ⟨gc, hgc⟩ : ∃ x, x = (getC A).1 := ⟨_, rfl⟩
      obtain ⟨ge, hge⟩ : ∃ x, x = (getC A).2 := ⟨_, rfl⟩
      rw [← hgc, ← hge] at HGt
      have HPk : Hid (pickC 0 ct0 A = if ge = 0 ∧ gc.gen % 2 = 0 ∧ (ct0).gen < gc.gen then gc else ct0) := hide (by rw [hgc, hge]; rfl)
      have HPos : Hid (ge = 0 → 1 ≤ gc.gen) := hide (fun h => by rw [hgc]; exact ((rightC_iff _).1 (getC_ok HByA.out (hge ▸ h)).1).1)
      have hOne := hide (ctV_one gc)
      clear hgc hge
      obtain ⟨cu, hcu⟩ : ∃ x, x = ct0 := ⟨_, rfl⟩
      rw [← hcu] at HC HPk
      have HCu := hide hcu
      clear hcu
      go_wp2_with (first
        | (with_reducible refine stop_slice 24 ?_)
        | fail)
      refine hide ?_
      refine wpList_run rfl (r_mid22 (sb := g) (so := 0) (len := 128) (cap := 128) 0 64 rfl rfl rfl (by decide) (by decide)) ?_
      go_wp2_with fail
      refine HGt.out.mono ?_
      rintro e w2 ⟨rfl, hk2⟩
      have HC2 := hide (hk2.blk HC.out (fun h => h))
      have HG2 := hide (hk2.blk HG.out (fun h => h))
      have HR2 := hide (hk2.blk HR.out (fun h => h))
      have HK2 := hide (HK.out.trans hk2 (fun _ _ h => h))
      clear hk2 HC HG HR HK HGt
      unfold ctAgg
      by_cases h0 : ge = 0
      case neg =>
        go_wp2_with (first
          | ((with_reducible refine aw_alloc (dst := some 10) Hi23.out Hz23.out ?_); intro w3 hb3 hk3 hz3; have Yz3 := hide hz3; clear hz3)
          | ((with_reducible refine aw_store (x := .tmp 10) (M := ctV gc) Try.agg23 rfl rfl rfl hOne.out hb3 (by simp [Value.cells]) ?_); intro w4 hw4 hk4 hz4; have Yz4 := hide hz4; clear hz4; rw [put_whole _ _ (by simp [Value.cells, ctV])] at hw4)
          | fail)
        have hkk : Kept (fun _ => False) w2 w4 := hk3.trans hk4 (fun i hi h => by omega)
        have HP2 : Hid (pickC 0 ct0 A = ct0) := hide (by rw [← HCu.out, HPk.out, if_neg (fun h => h0 h.1)])
        go_roundw
        case rel => exact .inr (.inl ⟨rfl, hide (by rw [show cur1 = pickC 0 ct0 A from H1.out, HP2.out, ← HCu.out]; exact hkk.blk HC2.out (fun h => h)), hide (hkk.blk HG2.out (fun h => h)), hide (hkk.blk HR2.out (fun h => h)), hide (HK2.out.trans hkk (fun _ _ h => h))⟩)
        case measure => simp [intOf]
      case pos =>
      subst h0
      obtain ⟨q, hq⟩ : ∃ q : Nat, gc.gen % 2 = q := ⟨(gc.gen % 2).toNat, by have := HPos.out rfl; omega⟩
      have HSl : Hid (∀ w, Calls Try.prog 34 #[ctAgg gc] w fun e w' => e = .returned (.int .i64 q) ∧ Kept (fun _ => False) w w') := hide (fun w => ctslot_at w gc q (by have := HPos.out rfl; omega) hq)
      have Hq := hide hq
      clear hq
      go_wp2_with (first
        | ((with_reducible refine aw_alloc (dst := some 10) Hi23.out Hz23.out ?_); intro w3 hb3 hk3 hz3; have Yz3 := hide hz3; clear hz3)
        | ((with_reducible refine aw_store (x := .tmp 10) (M := ctV gc) Try.agg23 rfl rfl rfl hOne.out hb3 (by simp [Value.cells]) ?_); intro w4 hw4 hk4 hz4; have Yz4 := hide hz4; clear hz4; rw [put_whole _ _ (by simp [Value.cells, ctV])] at hw4)
        | (with_reducible refine aw_loadG (t := 23) (M := ctV gc) rfl Try.agg23 rfl hw4 (by simp [ctV]) (by simp [ctV]) ?_)
        | fail)
      refine (HSl.out w4).mono ?_
      rintro e w5 ⟨rfl, hk5⟩
      have hkk : Kept (fun _ => False) w2 w5 := (hk3.trans hk4 (fun i hi h => by omega)).trans hk5 (fun _ _ h => h)
      obtain ⟨nb, hnb⟩ : ∃ x, x = w2.heap.size := ⟨_, rfl⟩
      rw [← hnb] at hw4 ⊢
      have HN := hide (hk5.blk hw4 (fun h => h))
      have HC3 := hide (hkk.blk HC2.out (fun h => h))
      have HG3 := hide (hkk.blk HG2.out (fun h => h))
      have HR3 := hide (hkk.blk HR2.out (fun h => h))
      have HK3 := hide (HK2.out.trans hkk (fun _ _ h => h))
      have HLw : Hid (w.heap.size ≤ cb) := HL
      clear hk3 hk4 hk5 hkk hb3 hw4 Yz3 Yz4 HC2 HG2 HR2 HK2 HSl hnb
      by_cases hqn : q = 0
      case neg =>
        have hqi : ¬ ((q : Int) = 0) := by omega
        have HP2 : Hid (pickC 0 ct0 A = ct0) := hide (by rw [← HCu.out, HPk.out, if_neg (fun h => hqi (by rw [← Hq.out]; exact h.2.1))])
        go_wp2
        go_roundw
        case rel => exact .inr (.inl ⟨rfl, hide (by rw [show cur1 = pickC 0 ct0 A from H1.out, HP2.out, ← HCu.out]; exact HC3.out), HG3, HR3, HK3⟩)
        case measure => simp [intOf]
      case pos =>
      subst hqn
      have n0 := HN.out.cell 0
      have k0 := HC3.out.cell 0
      simp only [ctV, List.getElem?_cons_zero] at n0 k0
      by_cases hgt : cu.gen < gc.gen
      case neg =>
        have HP2 : Hid (pickC 0 ct0 A = ct0) := hide (by rw [← HCu.out, HPk.out, if_neg (fun h => hgt h.2.2)])
        go_wp2
        go_roundw
        case rel => exact .inr (.inl ⟨rfl, hide (by rw [show cur1 = pickC 0 ct0 A from H1.out, HP2.out, ← HCu.out]; exact HC3.out), HG3, HR3, HK3⟩)
        case measure => simp [intOf]
      case pos =>
      have HP2 : Hid (pickC 0 ct0 A = gc) := hide (by rw [← HCu.out, HPk.out, if_pos ⟨by simp, by rw [Hq.out]; rfl, hgt⟩])
      go_wp2_with (first
        | (with_reducible refine aw_load (x := .tmp 10) (M := ctV gc) Try.agg23 rfl HN.out (by simp [ctV]) (by simp [ctV]) ?_)
        | ((with_reducible refine aw_store (x := .tmp 8) (M := ctV gc) Try.agg23 rfl rfl rfl hOne.out HC3.out (by simp [ctV]) ?_); intro w6 hw6 hk6 hz6; rw [put_whole _ _ (by simp [ctV])] at hw6)
        | fail)
      go_roundw
      case rel => exact .inr (.inl ⟨rfl, hide (by rw [show cur1 = pickC 0 ct0 A from H1.out, HP2.out]; exact hw6), hide (hk6.blk HG3.out (HG3.out.ne HC3.out (by decide))), hide (hk6.blk HR3.out (by have := HNe.out; omega)), hide (HK3.out.trans hk6 (fun i hi h => by have := HLw.out; omega))⟩)
      case measure => simp [intOf]
    · skip
      have HGt := hide (ctget_at wr (.slice (some ⟨g, 64, none⟩) 64 64) B (ct_part HG.out HAB.out).2 (by rw [HB.out]; decide))
      obtain ⟨gc, hgc⟩ : ∃ x, x = (getC B).1 := ⟨_, rfl⟩
      obtain ⟨ge, hge⟩ : ∃ x, x = (getC B).2 := ⟨_, rfl⟩
      rw [← hgc, ← hge] at HGt
      have HPk : Hid (pickC 1 cur1 B = if ge = 0 ∧ gc.gen % 2 = 1 ∧ (cur1).gen < gc.gen then gc else cur1) := hide (by rw [hgc, hge]; rfl)
      have HPos : Hid (ge = 0 → 1 ≤ gc.gen) := hide (fun h => by rw [hgc]; exact ((rightC_iff _).1 (getC_ok HByB.out (hge ▸ h)).1).1)
      have hOne := hide (ctV_one gc)
      clear hgc hge
      obtain ⟨cu, hcu⟩ : ∃ x, x = cur1 := ⟨_, rfl⟩
      rw [← hcu] at HC HPk
      have HCu := hide hcu
      clear hcu
      go_wp2_with (first
        | (with_reducible refine stop_slice 24 ?_)
        | fail)
      refine hide ?_
      refine wpList_run rfl (r_mid22 (sb := g) (so := 0) (len := 128) (cap := 128) 64 128 rfl rfl rfl (by decide) (by decide)) ?_
      go_wp2_with fail
      refine HGt.out.mono ?_
      rintro e w2 ⟨rfl, hk2⟩
      have HC2 := hide (hk2.blk HC.out (fun h => h))
      have HG2 := hide (hk2.blk HG.out (fun h => h))
      have HR2 := hide (hk2.blk HR.out (fun h => h))
      have HK2 := hide (HK.out.trans hk2 (fun _ _ h => h))
      clear hk2 HC HG HR HK HGt
      unfold ctAgg
      by_cases h0 : ge = 0
      case neg =>
        go_wp2_with (first
          | ((with_reducible refine aw_alloc (dst := some 10) Hi23.out Hz23.out ?_); intro w3 hb3 hk3 hz3; have Yz3 := hide hz3; clear hz3)
          | ((with_reducible refine aw_store (x := .tmp 10) (M := ctV gc) Try.agg23 rfl rfl rfl hOne.out hb3 (by simp [Value.cells]) ?_); intro w4 hw4 hk4 hz4; have Yz4 := hide hz4; clear hz4; rw [put_whole _ _ (by simp [Value.cells, ctV])] at hw4)
          | fail)
        have hkk : Kept (fun _ => False) w2 w4 := hk3.trans hk4 (fun i hi h => by omega)
        have HP2 : Hid (pickC 1 cur1 B = cur1) := hide (by rw [← HCu.out, HPk.out, if_neg (fun h => h0 h.1)])
        go_roundw
        case rel => exact .inr (.inr ⟨rfl, hide (by rw [show cur2 = pickC 1 cur1 B from H2.out, HP2.out, ← HCu.out]; exact hkk.blk HC2.out (fun h => h)), hide (hkk.blk HG2.out (fun h => h)), hide (hkk.blk HR2.out (fun h => h)), hide (HK2.out.trans hkk (fun _ _ h => h))⟩)
        case measure => simp [intOf]
      case pos =>
      subst h0
      obtain ⟨q, hq⟩ : ∃ q : Nat, gc.gen % 2 = q := ⟨(gc.gen % 2).toNat, by have := HPos.out rfl; omega⟩
      have HSl : Hid (∀ w, Calls Try.prog 34 #[ctAgg gc] w fun e w' => e = .returned (.int .i64 q) ∧ Kept (fun _ => False) w w') := hide (fun w => ctslot_at w gc q (by have := HPos.out rfl; omega) hq)
      have Hq := hide hq
      clear hq
      go_wp2_with (first
        | ((with_reducible refine aw_alloc (dst := some 10) Hi23.out Hz23.out ?_); intro w3 hb3 hk3 hz3; have Yz3 := hide hz3; clear hz3)
        | ((with_reducible refine aw_store (x := .tmp 10) (M := ctV gc) Try.agg23 rfl rfl rfl hOne.out hb3 (by simp [Value.cells]) ?_); intro w4 hw4 hk4 hz4; have Yz4 := hide hz4; clear hz4; rw [put_whole _ _ (by simp [Value.cells, ctV])] at hw4)
        | (with_reducible refine aw_loadG (t := 23) (M := ctV gc) rfl Try.agg23 rfl hw4 (by simp [ctV]) (by simp [ctV]) ?_)
        | fail)
      refine (HSl.out w4).mono ?_
      rintro e w5 ⟨rfl, hk5⟩
      have hkk : Kept (fun _ => False) w2 w5 := (hk3.trans hk4 (fun i hi h => by omega)).trans hk5 (fun _ _ h => h)
      obtain ⟨nb, hnb⟩ : ∃ x, x = w2.heap.size := ⟨_, rfl⟩
      rw [← hnb] at hw4 ⊢
      have HN := hide (hk5.blk hw4 (fun h => h))
      have HC3 := hide (hkk.blk HC2.out (fun h => h))
      have HG3 := hide (hkk.blk HG2.out (fun h => h))
      have HR3 := hide (hkk.blk HR2.out (fun h => h))
      have HK3 := hide (HK2.out.trans hkk (fun _ _ h => h))
      have HLw : Hid (w.heap.size ≤ cb) := HL
      clear hk3 hk4 hk5 hkk hb3 hw4 Yz3 Yz4 HC2 HG2 HR2 HK2 HSl hnb
      by_cases hqn : q = 1
      case neg =>
        have hqi : ¬ ((q : Int) = 1) := by omega
        have HP2 : Hid (pickC 1 cur1 B = cur1) := hide (by rw [← HCu.out, HPk.out, if_neg (fun h => hqi (by rw [← Hq.out]; exact h.2.1))])
        go_wp2
        go_roundw
        case rel => exact .inr (.inr ⟨rfl, hide (by rw [show cur2 = pickC 1 cur1 B from H2.out, HP2.out, ← HCu.out]; exact HC3.out), HG3, HR3, HK3⟩)
        case measure => simp [intOf]
      case pos =>
      subst hqn
      have n0 := HN.out.cell 0
      have k0 := HC3.out.cell 0
      simp only [ctV, List.getElem?_cons_zero] at n0 k0
      by_cases hgt : cu.gen < gc.gen
      case neg =>
        have HP2 : Hid (pickC 1 cur1 B = cur1) := hide (by rw [← HCu.out, HPk.out, if_neg (fun h => hgt h.2.2)])
        go_wp2
        go_roundw
        case rel => exact .inr (.inr ⟨rfl, hide (by rw [show cur2 = pickC 1 cur1 B from H2.out, HP2.out, ← HCu.out]; exact HC3.out), HG3, HR3, HK3⟩)
        case measure => simp [intOf]
      case pos =>
      have HP2 : Hid (pickC 1 cur1 B = gc) := hide (by rw [← HCu.out, HPk.out, if_pos ⟨by simp, by rw [Hq.out]; rfl, hgt⟩])
      go_wp2_with (first
        | (with_reducible refine aw_load (x := .tmp 10) (M := ctV gc) Try.agg23 rfl HN.out (by simp [ctV]) (by simp [ctV]) ?_)
        | ((with_reducible refine aw_store (x := .tmp 8) (M := ctV gc) Try.agg23 rfl rfl rfl hOne.out HC3.out (by simp [ctV]) ?_); intro w6 hw6 hk6 hz6; rw [put_whole _ _ (by simp [ctV])] at hw6)
        | fail)
      go_roundw
      case rel => exact .inr (.inr ⟨rfl, hide (by rw [show cur2 = pickC 1 cur1 B from H2.out, HP2.out]; exact hw6), hide (hk6.blk HG3.out (HG3.out.ne HC3.out (by decide))), hide (hk6.blk HR3.out (by have := HNe.out; omega)), hide (HK3.out.trans hk6 (fun i hi h => by have := HLw.out; omega))⟩)
      case measure => simp [intOf]
    · have c0 := HC.out.cell 0
      simp only [ctV, List.getElem?_cons_zero] at c0
      have hone := ctV_one cur2
      by_cases hz : cur2.gen = 0
      case pos =>
        have hres : (r, er) = (ct0, 20) := by rw [← HRes.out]; unfold resC; rw [if_pos hz]
        simp only [Prod.mk.injEq] at hres
        obtain ⟨rfl, rfl⟩ := hres
        go_wp2_with (first
          | ((with_reducible refine wpList_run rfl r_build23_0 ?_))
          | ((with_reducible refine aw_store (x := .tmp 4) (M := ctV ct0) Try.agg23 rfl rfl rfl (ctV_one ct0) HR.out (by simp [ctV]) ?_); intro w5 hw5 hk5 hz5; rw [put_whole _ _ (by simp [ctV])] at hw5)
          | fail)
        refine bodyPost_ret (results_cell2 (t := 4) (u := 5) (ty := 23) rfl Try.agg23 rfl hw5 rfl) rfl ?_
        exact ⟨rfl, HK.out.trans hk5 (fun i hi h => by have := HLr.out; omega)⟩
      case neg =>
        have hres : (r, er) = (cur2, 0) := by rw [← HRes.out]; unfold resC; rw [if_neg hz]
        simp only [Prod.mk.injEq] at hres
        obtain ⟨rfl, rfl⟩ := hres
        have Hone := hide hone
        clear hone
        go_wp2_with (first
          | (with_reducible refine aw_load (x := .tmp 8) (M := ctV r) Try.agg23 rfl HC.out (by simp [ctV]) (by simp [ctV]) ?_)
          | ((with_reducible refine aw_store (x := .tmp 4) (M := ctV r) Try.agg23 rfl rfl rfl Hone.out HR.out (by simp [ctV]) ?_); intro w5 hw5 hk5 hz5; rw [put_whole _ _ (by simp [ctV])] at hw5)
          | fail)
        refine bodyPost_ret (results_cell2 (t := 4) (u := 5) (ty := 23) rfl Try.agg23 rfl hw5 rfl) rfl ?_
        exact ⟨rfl, HK.out.trans hk5 (fun i hi h => by have := HLr.out; omega)⟩
end Go.Proofs.Ytapoagpkjngjpaa
