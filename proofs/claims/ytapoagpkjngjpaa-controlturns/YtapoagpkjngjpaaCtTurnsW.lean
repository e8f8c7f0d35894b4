/-
  ControlTurns answers true for every list of controls, and it reads afterwards as before. Conditions: none.
  Ahead of it the walk through the law.
-/
import Derived.Test.YtapoagpkjngjpaaCtCrashM
import Derived.Test.YtapoagpkjngjpaaCtDv
namespace Go.Proofs.Ytapoagpkjngjpaa
open Go.RowKit Go.Shelf
set_option linter.unusedSimpArgs false
set_option linter.unusedVariables false
set_option maxRecDepth 100000

/-- A list of controls among the arguments. -/
def CtsAt (w : World) (ao : Option Addr) (L : List Ct) : Prop := ∀ k (hk : k < L.length), ∃ sb so, ao = some ⟨sb, so, none⟩ ∧ Cells w sb (so + k * 7) (ctV L[k])
section
variable {ρ : Operand → Value} {w : World} {dst : Option Tmp} {ty : TypeId} {pos : String} {aft : Array Edge} {gd : Option (Nat × Bool)} {x y : Operand}
theorem r_ldc23 {b o : Nat} {c : Ct} (hx : ρ x = .pointer (some ⟨b, o, none⟩)) (hc : Cells w b o (ctV c)) : (execOp ρ ⟨dst, .load 23 x, ty, pos, aft, gd⟩).run Try.prog w = .ok (.value (.agg (ctV c).toArray)) w := by
  have h := run_loadCells_list (P := Try.prog) w ⟨b, o, none⟩ (ctV c) (fun j v hj => by rw [addr_add]; exact hc j v hj)
  rw [show (ctV c).length = 7 from rfl] at h
  simp [execOp, Instr.loadAt, hx, Instr.sureAddr, loadVar, run_isAgg Try.agg23, run_sizeOf Try.agg23, h]
end
theorem aw_ctelem {ops : Array Oper} {Q : Exit → Act → World → Prop} {a : Act} {rest : List Oper} {w : World} {c : Ct} {b off : Nat} {d : Option Tmp} {x : Operand} {ty : TypeId} {pos : String} {aft : Array Edge} (hx : a.eval x = .pointer (some ⟨b, off, none⟩)) (hc : Cells w b off (ctV c))
    (h : wpList Try.prog ops Q rest (a.put d (.agg (ctV c).toArray)) w) : wpList Try.prog ops Q (⟨d, .load 23 x, ty, pos, aft, none⟩ :: rest) a w :=
  wpList_run rfl (r_ldc23 hx hc) h
section
variable {P : Program} {ops : Array Oper} {Q : Exit → Act → World → Prop} {a : Act} {w : World} {rest : List Oper} {o : Oper} {v : Value}
theorem lsW' (hw : Region.wanted o (yielded ops a.tmps) = true) (hr : (execOp a.eval o).run P w = .ok (.value v) w) (h : wpList P ops Q rest (a.put o.dst v) w) : wpList P ops Q (o :: rest) a w :=
  wpList_step fun K hK => by rw [if_pos hw]; unfold Oper.wp; rw [hr]; exact hK _ _ h
end
theorem atMost_mono {g h : Int} {b : List Nat} (hb : atMost g b) (hg : g ≤ h) : atMost h b := fun e => Int.le_trans (hb e) hg
structure TI (g : Nat) (A B : List Nat) : Prop where
  ok : okAB A B
  at0 : g % 2 = 0 → atMost g A
  at1 : g % 2 = 1 → atMost g B
theorem AB_64 {A B : List Nat} (h : okAB A B) : ∀ x ∈ [A, B, z64], x.length = 64 := by
  intro x hx
  simp only [List.mem_cons, List.not_mem_nil, or_false] at hx
  rcases hx with rfl | rfl | rfl
  · exact h.1
  · exact h.2.1
  · exact z64_ok.1
theorem resT {L : List (List Nat)} (h64 : ∀ x ∈ L, x.length = 64) {q : Nat} (hq : q < L.length) {c : Ct} (cc : Nat) : (if wErr ⟨BV L.flatten, [], cc, -1, false⟩ ≠ 0 then (ct0, wErr ⟨BV L.flatten, [], cc, -1, false⟩, wDev ⟨BV L.flatten, [], cc, -1, false⟩ (0 + q) 1 (putC c)) else if (wDev ⟨BV L.flatten, [], cc, -1, false⟩ (0 + q) 1 (putC c)).errF ≠ 0 then (ct0, (wDev ⟨BV L.flatten, [], cc, -1, false⟩ (0 + q) 1 (putC c)).errF, (wDev ⟨BV L.flatten, [], cc, -1, false⟩ (0 + q) 1 (putC c)).flushed) else (c, 0, (wDev ⟨BV L.flatten, [], cc, -1, false⟩ (0 + q) 1 (putC c)).flushed)) = (c, (0 : Int), (⟨BV (L.set q (putC c)).flatten, [], cc + 2, -1, false⟩ : D.DS)) := by
  rw [wErr_lit, wDev_lit _ _ _ _ _ (by decide) _ (putC_length _), Nat.zero_add]
  rw [if_neg (by decide), List.nil_append, errF_lit, if_neg (by decide), flushed_lit h64 hq (putC_length _) _ _ (by decide)]
  rfl
/-- What a round makes of the slots, its other sector, and what is read. -/
theorem turn_ok {g : Nat} {A B : List Nat} (h : TI g A B) {nx : Ct} (hr : rightC nx = true) (hg : nx.gen = g + 1) {q : Nat} (hq : nx.gen % 2 = q) :
    ∃ A' B' S, [A, B, z64].set q (putC nx) = [A', B', z64] ∧ TI (g + 1) A' B' ∧ resC (twoC A' B') = (nx, 0) ∧ S.length = 64 ∧ (∀ x ∈ S, x < 256) ∧ [A, B, z64][g % 2]? = some S ∧ [A', B', z64][g % 2]? = some S := by
  rcases q_cases hq with rfl | rfl
  · have e : g % 2 = 1 := by omega
    refine ⟨putC nx, B, B, rfl, ⟨⟨putC_length _, h.ok.2.1, putC_lt _, h.ok.2.2.2⟩, fun _ => atMost_put hr (by omega), fun h9 => by omega⟩, ?_, h.ok.2.1, h.ok.2.2.2, by rw [e]; rfl, by rw [e]; rfl⟩
    rw [twoC_0 hr hq (atMost_mono (h.at1 e) (by omega)), resC_right hr]
  · have e : g % 2 = 0 := by omega
    refine ⟨A, putC nx, A, rfl, ⟨⟨h.ok.1, putC_length _, h.ok.2.2.1, putC_lt _⟩, fun h9 => by omega, fun _ => atMost_put hr (by omega)⟩, ?_, h.ok.1, h.ok.2.2.1, by rw [e]; rfl, by rw [e]; rfl⟩
    rw [twoC_1 hr hq (atMost_mono (h.at0 e) (by omega)), resC_right hr]
theorem im_part {w : World} {g : Nat} {L : List (List Nat)} {t : TypeId} {q : Nat} {S : List Nat} (h : Blk w g (BV L.flatten) t) (h64 : ∀ x ∈ L, x.length = 64) (hS : L[q]? = some S) (hb : ∀ x ∈ S, x < 256) (cap : Nat) (hc : 64 ≤ cap) : Src w (.slice (some ⟨g, 64 * q, none⟩) 64 cap) S := by
  obtain ⟨h1, e1⟩ := List.getElem?_eq_some_iff.1 hS
  have hl : S.length = 64 := h64 S (e1 ▸ List.getElem_mem _)
  refine ⟨_, cap, by rw [hl], by omega, hb, fun _ => ⟨g, 64 * q, rfl, ?_⟩, fun h => by cases h⟩
  have := h.cells (64 * q) 64
  rw [← BV_drop, ← BV_take, flat_at L q h1 h64, e1] at this
  exact this
theorem set3 (A B : List Nat) (q : Nat) (M : List Nat) : q < [A, B, z64].length ↔ q < 3 := by simp

set_option maxHeartbeats 16000000 in
theorem ctturns_at (w : World) (ao : Option Addr) (cap : Nat) (L : List Ct) (hL : CtsAt w ao L) (hn : L.length ≤ 9223372036854775807) :
    Calls Try.prog 5 #[.slice ao L.length cap] w fun e w' => e = .returned (.bool true) ∧ Kept (fun _ => False) w w' := by
  obtain ⟨i23, hi23, hz23, hs23, hb23⟩ := info_parts Try.info23
  have Hi23 := hide hi23
  have Hz23 := hide hz23
  obtain ⟨i3, hi3, hz3, hs3, hb3⟩ := info_parts Try.info3
  have Hi3 := hide hi3
  have Hs3 := hide hs3
  have Hc0 := hide (ctV_one ct0)
  have HL := hide hL
  obtain ⟨n, hne⟩ : ∃ n, n = L.length := ⟨_, rfl⟩
  have Hne := hide hne
  rw [← hne] at hn ⊢
  clear hi23 hz23 hs23 hb23 hi3 hz3 hs3 hb3 hL hne
  go_enter Try.func5, Try.ntmps5
  go_wp2_with fail
  refine (ctfirst_at w).mono ?_
  rintro e w1 ⟨rfl, hk1⟩
  by_cases hbig : 30 < n
  · have hbi : (30 : Int) < n := by omega
    go_wp2
    go_ret
    exact ⟨rfl, hk1⟩
  have hbi : ¬ (30 : Int) < n := by omega
  have Hn30 : Hid (n ≤ 30) := hide (by omega)
  have K1 := hide hk1
  clear hk1 hbig
  go_wp2_with fail
  refine (D.Dv.new w w1 3 (by decide) (by decide) K1.out [] (by simp)).mono ?_
  rintro e w2 ⟨b, rfl, h2⟩
  rw [new3] at h2
  have D2 := hide h2
  have T0 : Hid (TI 0 z64 z64) := hide ⟨⟨z64_ok.1, z64_ok.1, z64_ok.2, z64_ok.2⟩, fun _ => by rw [zeros_eq]; exact atMost_zeros _, fun h => by omega⟩
  clear h2 K1 hbi
  go_wp2
  go_loopw [5, 24] (fun gv iv wr => ∃ (g k cc : Nat) (A B : List Nat), gv = .int .i64 g ∧ iv = .int .i64 k ∧ g ≤ k ∧ k ≤ n ∧ cc ≤ 2 * k ∧ Hid (TI g A B) ∧ Hid (D.Dv w wr b 3 ⟨BV [A, B, z64].flatten, [], cc, -1, false⟩ [])) (fun _ i _ => n - (intOf i).toNat)
  case atStart => exact ⟨0, 0, 0, z64, z64, rfl, rfl, Nat.le_refl _, Nat.zero_le _, Nat.le_refl _, T0, D2⟩
  case round =>
    obtain ⟨g, k, cc, A, B, rfl, rfl, hgk, hkn, hcc, TG, DR⟩ := hrel
    clear T0 D2
    by_cases hlt : k < n
    case neg =>
      go_wp2
      go_ret
      exact ⟨rfl, DR.out.kept⟩
    case pos =>
    have hkL : k < L.length := by have := Hne.out; omega
    obtain ⟨sb, so, hao, hcl⟩ := HL.out k hkL
    have HE := hide (DR.out.kept.cells hcl (fun h => h))
    obtain ⟨c, hc⟩ : ∃ c, c = L[k] := ⟨_, rfl⟩
    rw [← hc] at HE
    have HO1 := hide (ctV_one c)
    subst hao
    have HK : Hid (g ≤ k ∧ k < n ∧ n ≤ 30 ∧ cc ≤ 2 * k) := hide ⟨hgk, hlt, Hn30.out, hcc⟩
    have hgn : g ≤ 30 := by have := Hn30.out; omega
    have HGn := hide hgn
    obtain ⟨gi, hgi⟩ : ∃ gi : Int, gi = (g : Int) := ⟨_, rfl⟩
    obtain ⟨q0, hq0⟩ : ∃ q, g % 2 = q := ⟨_, rfl⟩
    have hq02 : q0 < 2 := by omega
    have HGi := hide hgi
    have HQ0 := hide hq0
    have HQ02 := hide hq02
    have hm0 : gi % 2 = q0 := by omega
    have hm1 : gi.tmod 2 = q0 := by rw [Int.tmod_eq_emod_of_nonneg (by omega)]; exact hm0
    have hw64 : IntKind.i64.wrap (64 * (q0 : Int)) = 64 * (q0 : Int) := by rw [IntKind.wrap_i64]; omega
    have hw65 : IntKind.i64.wrap (64 * (q0 : Int) + 64) = 64 * (q0 : Int) + 64 := by rw [IntKind.wrap_i64]; omega
    have Hw64 := hide hw64
    have Hw65 := hide hw65
    obtain ⟨cp, hcp⟩ : ∃ x : Ct, x = { c with gen := gi } := ⟨_, rfl⟩
    obtain ⟨nx, hnx⟩ : ∃ x : Ct, x = { cp with gen := cp.gen + 1 } := ⟨_, rfl⟩
    have hcg : cp.gen = gi := by rw [hcp]
    have hng : nx.gen = gi + 1 := by rw [hnx, ← hcg]
    have hnx2 : nx = { cp with gen := gi + 1 } := by rw [hnx, hcg]
    have HCp := hide hcp
    have HNx := hide hnx
    have HCg := hide hcg
    have HNg := hide hng
    have HNx2 := hide hnx2
    rw [← hgi]
    clear hcl hc hgk hkn hcc hgn hgi hq0 hq02 hcp hnx hcg hng hnx2
    go_wp2_with (first
      | (with_reducible refine aw_ctelem (c := c) rfl HE.out ?_)
      | ((with_reducible refine aw_alloc (dst := some 7) Hi23.out Hz23.out ?_); intro w3 hb3 hk3 hz3; have Yz3 := hide hz3; clear hz3)
      | ((with_reducible refine aw_store (x := .tmp 7) (M := ctV c) Try.agg23 rfl rfl rfl HO1.out hb3 (by simp [Value.cells]) ?_); intro w4 hw4 hk4 hz4; have Yz4 := hide hz4; clear hz4; rw [put_whole _ _ (by simp [Value.cells, ctV])] at hw4)
      | (with_reducible refine stop_store 3 ?_)
      | fail)
    refine hide ?_
    refine aw_store1 (v := .int .i64 gi) Hi3.out Hs3.out rfl rfl rfl rfl hw4 (by simp [ctV]) ?_
    intro w5 hb5 hk5 hz5
    rw [ct_gen, ← HCp.out] at hb5
    have hkx : Kept (fun _ => False) wr w5 := (hk3.trans hk4 (fun i hi h => by omega)).trans hk5 (fun i hi h => by omega)
    have D5 := hide (Dvm DR.out hkx rfl hb5)
    obtain ⟨bc, hbc⟩ : ∃ x, x = wr.heap.size := ⟨_, rfl⟩
    rw [← hbc] at D5 ⊢
    have LBc : Hid (w.heap.size ≤ bc) := hide (by have := DR.out.kept.size; omega)
    clear hb3 hk3 hw4 hk4 hb5 hk5 hz5 hkx hbc Yz3 Yz4 DR HE
    go_wp2_with fail
    refine (D.Dv.image D5.out).mono ?_
    rintro e w6 ⟨im, rfl, h6⟩
    have D6 := hide h6
    clear h6 D5
    have HS := hide (fun (S : List Nat) (h1 : [A, B, z64][q0]? = some S) (h2 : ∀ x ∈ S, x < 256) => im_part (D6.out.blk (im, BV [A, B, z64].flatten, 5) (by simp)) (AB_64 TG.out.ok) h1 h2 (192 - 64 * q0) (by have := HQ02.out; omega))
    go_wp2_with (first
      | (with_reducible refine stop_slice 24 ?_)
      | fail)
    refine hide ?_
    refine wpList_run rfl (r_mid22 (sb := im) (so := 0) (len := 192) (cap := 192) (64 * q0) (64 * q0 + 64) rfl rfl rfl (by omega) (by have := HQ02.out; omega)) ?_
    obtain ⟨S, hS1, hS2⟩ : ∃ S, [A, B, z64][q0]? = some S ∧ ∀ x ∈ S, x < 256 := by
      have hq := HQ02.out
      have ho := TG.out.ok
      rcases (by omega : q0 = 0 ∨ q0 = 1) with rfl | rfl
      · exact ⟨A, rfl, ho.2.2.1⟩
      · exact ⟨B, rfl, ho.2.2.2⟩
    have HSr := hide (HS.out S hS1 hS2)
    have HS1 := hide hS1
    rw [show 64 * q0 + 64 - 64 * q0 = 64 by omega, Nat.zero_add]
    clear hS1 hS2 HS hm0 hm1 hw64 hw65
    go_wp2_with (first
      | (with_reducible refine stop_convert 24 9 ?_)
      | fail)
    refine hide ?_
    refine wpList_run rfl (r_strS rfl HSr.out) ?_
    have D7 := hide (Dv_perm (H := [(bc, ctV cp, 23)]) D6.out (by simp))
    clear D6 HSr
    cases hr : rightC nx with
    | false =>
      have HW := hide (Dv.ctarg D7.out 0 (by decide) cp nx (by rw [HCg.out, HGi.out]; have := HGn.out; omega) (by rw [HCg.out, HGi.out]; omega) HNx.out.symm hr (by show cc < _; have := HK.out; omega) (by show 0 + 1 < _; decide))
      clear hr
      go_wp2_with (first
        | (with_reducible refine aw_load (x := .tmp 7) (M := ctV cp) Try.agg23 rfl (D7.out.blk (bc, ctV cp, 23) (by simp)) (by simp [ctV]) (by simp [ctV]) ?_)
        | fail)
      refine HW.out.mono ?_
      rintro e w8 ⟨rfl, h8⟩
      have D8 := hide h8
      clear h8 HW D7
      unfold ctAgg
      go_wp2_with (first
        | ((with_reducible refine aw_alloc (dst := some 9) Hi23.out Hz23.out ?_); intro w9 hb_ hk1_ hz_; have Yz_w9 := hide hz_; clear hz_)
        | ((with_reducible refine aw_store (x := .tmp 9) (M := ctV ct0) Try.agg23 rfl rfl rfl Hc0.out hb_ (by simp [Value.cells]) ?_); intro w10 hw_ hk2_ hz2_; have Yz_w10 := hide hz2_; clear hz2_; rw [put_whole _ _ (by simp [Value.cells, ctV])] at hw_; have hkx : Kept (fun _ => False) w8 w10 := hk1_.trans hk2_ (fun i hi h => by omega); have D10 := hide (Dv_perm (H := []) (D8.out.same hkx) (by simp)); clear hb_ hk1_ hk2_ hw_ hkx)
        | fail)
      rw [HGi.out]
      go_roundw
      case rel => exact ⟨g, k + 1, cc, A, B, rfl, rfl, by have := HK.out; omega, by have := HK.out; omega, by have := HK.out; omega, TG, D10⟩
      case measure => simp [intOf]; have := HK.out; omega
    | true =>
      have hi := (rightC_iff nx).1 hr
      obtain ⟨q, hq⟩ : ∃ q : Nat, nx.gen % 2 = q := ⟨(nx.gen % 2).toNat, by omega⟩
      have hgx : nx.gen = (g : Int) + 1 := by rw [HNg.out, HGi.out]
      obtain ⟨A', B', S', e1, t1, r1, l1, b1, s1, s2⟩ := turn_ok TG.out hr hgx hq
      rw [HQ0.out] at s1 s2
      have hSS : S = S' := by have := HS1.out.symm.trans s1; simpa using this
      subst hSS
      have HW := hide (Dv.ctwrite D7.out 0 (by decide) cp nx (by rw [HCg.out, HGi.out]; have := HGn.out; omega) HNx.out.symm hr q hq (by show cc < _; have := HK.out; omega) (by show 0 + 1 < _; decide) _ rfl nx 0 _ (resT (AB_64 TG.out.ok) (by rw [set3 A B q []]; omega) cc))
      rw [e1] at HW
      have HN1 := hide (ctV_one nx)
      have HNe : Hid ((!eqC nx nx) = false) := hide (by rw [eqC_self]; rfl)
      have HT1 := hide t1
      have HRd := hide (fun (w' : World) G cc (h : D.Dv w w' b 3 ⟨BV [A', B', z64].flatten, [], cc, -1, false⟩ G) => Dv.ctread h 0 (by decide) rfl A' B' t1.ok (part_flat (L := [A', B', z64]) (AB_64 t1.ok) rfl rfl) nx 0 r1)
      have HIm := hide (fun (w' : World) im (h : Blk w' im (BV [A', B', z64].flatten) 5) => im_part h (AB_64 t1.ok) s2 b1 (192 - 64 * q0) (by have := HQ02.out; omega))
      clear hr hi hq hgx e1 t1 r1 l1 b1 s1 s2
      go_wp2_with (first
        | (with_reducible refine aw_load (x := .tmp 7) (M := ctV cp) Try.agg23 rfl (D7.out.blk (bc, ctV cp, 23) (by simp)) (by simp [ctV]) (by simp [ctV]) ?_)
        | fail)
      refine HW.out.mono ?_
      rintro e w8 ⟨rfl, h8⟩
      have D8 := hide h8
      clear h8 HW D7
      unfold ctAgg
      obtain ⟨g1, hg1⟩ : ∃ x : Int, x = gi + 1 := ⟨_, rfl⟩
      have hw1 : IntKind.i64.wrap (gi + 1) = g1 := by rw [IntKind.wrap_i64, hg1]; have := HGi.out; have := HGn.out; omega
      have HG1 := hide hg1
      have Hw1 := hide hw1
      clear hg1
      go_wp2_with (first
        | ((with_reducible refine aw_alloc (dst := some 9) Hi23.out Hz23.out ?_); intro w9 hb_ hk1_ hz_; have Yz_w9 := hide hz_; clear hz_)
        | ((with_reducible refine aw_store (x := .tmp 9) (M := ctV nx) Try.agg23 rfl rfl rfl HN1.out hb_ (by simp [Value.cells]) ?_); intro w10 hw_ hk2_ hz2_; have Yz_w10 := hide hz2_; clear hz2_; rw [put_whole _ _ (by simp [Value.cells, ctV])] at hw_; have hkx : Kept (fun _ => False) w8 w10 := hk1_.trans hk2_ (fun i hi h => by omega); have D10 := hide (Dvm D8.out hkx rfl hw_); clear hb_ hk1_ hk2_ hw_ hkx)
        | (with_reducible refine stop_store 3 ?_)
        | fail)
      refine hide ?_
      obtain ⟨gx, hgx⟩ : ∃ x, x = w8.heap.size := ⟨_, rfl⟩
      rw [← hgx] at D10 ⊢
      have LX : Hid (gx ≠ bc) := hide (by have := (D8.out.blk (bc, ctV cp, 23) (by simp)).lt; simp at this; omega)
      have D11 := hide (Dv_perm (H := [(bc, ctV cp, 23), (gx, ctV nx, 23)]) D10.out (by simp))
      clear hgx D10 D8
      refine aw_store1 (v := .int .i64 g1) Hi3.out Hs3.out rfl rfl rfl rfl (D11.out.blk (bc, ctV cp, 23) (by simp)) (by simp [ctV]) ?_
      intro w11 hb11 hk11 hz11
      rw [ct_gen, HG1.out, ← HNx2.out] at hb11
      have D12 := hide (Dv_set D11.out hk11 hb11 LBc.out (by simp; exact LX.out))
      clear hb11 hk11 hz11 D11 hw1
      go_wp2_with fail
      refine (HRd.out w11 _ _ D12.out).mono ?_
      rintro e w12 ⟨rfl, -, h12⟩
      have D13 := hide h12
      clear h12 D12 HRd
      unfold ctAgg
      obtain ⟨g2, hg2⟩ : ∃ x : Int, x = g1 + 1 := ⟨_, rfl⟩
      have hw2 : IntKind.i64.wrap (g1 + 1) = g2 := by rw [IntKind.wrap_i64, hg2, HG1.out]; have := HGi.out; have := HGn.out; omega
      have hn0 : g2 % 2 = q0 := by have := HQ0.out; have := HGi.out; have := HG1.out; omega
      have hn1 : g2.tmod 2 = q0 := by rw [Int.tmod_eq_emod_of_nonneg (by have := HGi.out; have := HG1.out; omega)]; exact hn0
      have hw64 := Hw64.out
      have hw65 := Hw65.out
      clear hg2
      go_wp2_with (first
        | ((with_reducible refine aw_alloc (dst := some 11) Hi23.out Hz23.out ?_); intro w13 hb_ hk1_ hz_; have Yz_w13 := hide hz_; clear hz_)
        | ((with_reducible refine aw_store (x := .tmp 11) (M := ctV nx) Try.agg23 rfl rfl rfl HN1.out hb_ (by simp [Value.cells]) ?_); intro w14 hw_ hk2_ hz2_; have Yz_w14 := hide hz2_; clear hz2_; rw [put_whole _ _ (by simp [Value.cells, ctV])] at hw_; have hkx : Kept (fun _ => False) w12 w14 := hk1_.trans hk2_ (fun i hi h => by omega); have D15 := hide (D13.out.same hkx); have hb11 := hide hw_; clear hb_ hk1_ hk2_ hw_ hkx)
        | (with_reducible refine aw_load (x := .tmp 9) (M := ctV nx) Try.agg23 rfl (D15.out.blk (gx, ctV nx, 23) (by simp)) (by simp [ctV]) (by simp [ctV]) ?_)
        | (with_reducible refine aw_load (x := .tmp 7) (M := ctV nx) Try.agg23 rfl (D15.out.blk (bc, ctV nx, 23) (by simp)) (by simp [ctV]) (by simp [ctV]) ?_)
        | (with_reducible refine aw_loadG (x := .tmp 11) (t := 23) (M := ctV nx) rfl Try.agg23 rfl hb11.out (by simp [ctV]) (by simp [ctV]) ?_)
        | (with_reducible refine aw_loadG (x := .tmp 7) (t := 23) (M := ctV nx) rfl Try.agg23 rfl (D15.out.blk (bc, ctV nx, 23) (by simp)) (by simp [ctV]) (by simp [ctV]) ?_)
        | (with_reducible refine aw_ne23 (c := nx) (d := nx) (b := false) rfl rfl rfl HNe.out ?_)
        | fail)
      refine (D.Dv.image D15.out).mono ?_
      rintro e w16 ⟨im2, rfl, h16⟩
      have HSr := hide (HIm.out w16 im2 (h16.blk _ (List.Mem.head _)))
      have D16 := hide (Dv_perm (H := []) h16 (by simp))
      clear h16 D15 hb11 HIm
      go_wp2_with (first
        | (with_reducible refine stopAt 82 ?_)
        | fail)
      refine hide ?_
      refine lsW' rfl (r_mid22 (sb := im2) (so := 0) (len := 192) (cap := 192) (64 * q0) (64 * q0 + 64) rfl rfl rfl (by omega) (by have := HQ02.out; omega)) ?_
      rw [show 64 * q0 + 64 - 64 * q0 = 64 by omega, Nat.zero_add]
      clear hn0 hn1 hw64 hw65 hw2
      refine lsW' rfl (r_strS rfl HSr.out) ?_
      go_wp2
      rw [HG1.out, HGi.out]
      go_roundw
      case rel => exact ⟨g + 1, k + 1, cc + 2, A', B', by simp, by simp, by have := HK.out; omega, by have := HK.out; omega, by have := HK.out; omega, HT1, D16⟩
      case measure => simp [intOf]; have := HK.out; omega
end Go.Proofs.Ytapoagpkjngjpaa

/-
  ControlTurns answers true for every list of controls, and it reads afterwards as before. Conditions: none.
-/
namespace Go.Proofs.Ytapoagpkjngjpaa
open Go.ChangeShapes Go.WideShapes Go.ChangeAt Go.RowKit
set_option linter.unusedSimpArgs false
set_option linter.unusedVariables false
set_option maxRecDepth 100000

theorem open_cts {H : Type} {enc : TypeId × Value → H} {w : World} {base : Nat} {spare : Nat → Bool} {held : Bool} {ao : Option Addr} {len cap : Nat} {d : DataW H} {p : List MemPlace}
    (h : DataW.Trod enc Try.prog w base spare held 45 (.slice ao len cap) d p) : ∃ L : List Ct, L.length = len ∧ len ≤ 9223372036854775807 ∧ CtsAt w ao L := by
  obtain ⟨fuel, hf⟩ := h
  rcases Go.Deep.open_slice Try.underlying45 hf with ⟨hcs, _⟩ | ⟨a, len', cap', m, n, D, Pl, hcs, _, hl, hcm, hm, _, hx⟩
  · simp [Value.cells] at hcs
    obtain ⟨rfl, rfl, rfl⟩ := hcs
    exact ⟨[], rfl, Nat.zero_le _, fun k hk => absurd hk (by simp)⟩
  · simp [Value.cells] at hcs
    obtain ⟨rfl, rfl, rfl⟩ := hcs
    have hlm : len ≤ m := by rw [hm]; split <;> omega
    have each : ∀ k, k < len → ∃ (sb so : Nat) (o : Ct), a = ⟨sb, so, none⟩ ∧ Cells w sb (so + k * 7) (ctV o) := by
      intro k hk
      obtain ⟨cs', h1, h2⟩ := hx k (by omega)
      rw [Try.cells23] at h1
      obtain ⟨_, hlen, hcell⟩ := World.cells?_some h1
      obtain ⟨o, rfl, -⟩ := read_ct hlen h2
      obtain ⟨cs0, g1, g2⟩ := hx 0 (by omega)
      rw [Try.cells23] at g1
      obtain ⟨_, glen, gcell⟩ := World.cells?_some g1
      have h0 := gcell 0 (by omega)
      rw [List.getElem?_eq_getElem (by omega)] at h0
      obtain ⟨sb, so, sp⟩ := a
      have hsp : sp = none := by
        simp [Addr.add] at h0
        simpa using World.cell?_spot h0
      subst hsp
      refine ⟨sb, so, o, rfl, ?_⟩
      intro j u hj
      have h3 := hcell j (by
        rcases Nat.lt_or_ge j 7 with h | h
        · exact h
        · rw [List.getElem?_eq_none (by omega)] at hj; cases hj)
      rw [addr_add, addr_add] at h3
      rw [h3, hj]
    obtain ⟨f, hf⟩ : ∃ f : Nat → Ct, ∀ k, k < len → ∃ sb so, a = ⟨sb, so, none⟩ ∧ Cells w sb (so + k * 7) (ctV (f k)) := by
      have : ∀ k, ∃ o : Ct, k < len → ∃ sb so, a = ⟨sb, so, none⟩ ∧ Cells w sb (so + k * 7) (ctV o) := by
        intro k
        by_cases hk : k < len
        · obtain ⟨sb, so, o, h1, h2⟩ := each k hk
          exact ⟨o, fun _ => ⟨sb, so, h1, h2⟩⟩
        · exact ⟨ct0, fun h => absurd h hk⟩
      exact ⟨fun k => Classical.choose (this k), fun k hk => Classical.choose_spec (this k) hk⟩
    refine ⟨(List.range len).map f, by simp, by unfold maxLen at hcm; omega, ?_⟩
    intro k hk
    simp at hk
    obtain ⟨sb, so, h1, h2⟩ := hf k hk
    exact ⟨sb, so, by rw [h1], by simpa using h2⟩

theorem turns_lifted (os : Os) (started : os.Started) (H : Type) (enc : TypeId × Value → H) :
    ReturnsInHanded {} Try.checked os 5 .any (Rows.controlTurnsSpec.pre6 enc Try.prog Try.f5 Rows.controlTurnsRow.domain false) (Rows.controlTurnsSpec.post enc Try.prog Try.f5 false true false false) := by
  refine returnsInHanded_of_change (C := Try.checked) Try.own started (by kernel_rfl) Try.func5
    (ChangeSpec.witness6 (enc := enc) (C := Try.checked) false ⟨#[], #[.slice none 0 0], []⟩ 8 (by kernel_rfl) (by kernel_rfl) (by kernel_rfl) (by kernel_rfl)) ?_
  intro W base args ds gs before hval0 hW hcnd _
  have hval : ∀ (j : Nat) t v, Try.f5.params[j]? = some t → args[j]? = some v → Value.okWide Try.prog W .any base t v := hval0
  have hW' := hW
  obtain ⟨p, q, hA0, hV, rfl, hfz, hnd⟩ := hW
  have hA : DataW.TrodAll enc Try.prog W 0 (fun _ => true) true Try.f5.params.toList args.toList ds p := hA0
  rw [Try.params5] at hA hval
  obtain ⟨v0, vs0, d0, ds0, p0, q0, hargs, rfl, rfl, h0, r0⟩ := trodAll_cons hA
  obtain ⟨rfl, rfl, rfl⟩ := trodAll_nil r0
  obtain rfl : args = #[v0] := by cases args; simp_all
  obtain ⟨rfl, rfl⟩ := trodVars_none hV
  have k0 := h0
  have lt0 : ∀ x ∈ p0, x.block < W.heap.size := by obtain ⟨m, hm⟩ := k0; exact DataW.trod_lt m _ _ _ hm
  obtain ⟨ao, len, cap, rfl⟩ := okWide_slice Try.underlying45 (hval 0 45 v0 rfl rfl)
  obtain ⟨L, rfl, hlen, hL⟩ := open_cts h0
  clear hA0 hval0
  refine (ctturns_at W ao cap L hL hlen).mono fun e W' ⟨he, hk⟩ => ?_
  subst he
  have bel := hk.below
  exact ⟨_, rfl, _, _, _, [], _, [], hW', trodAll_mk1 (shut_bool Try.underlying4 _), (trodAll_cons_mk (Below.trod Try.laidOut (by kernel_rfl) (of_decide_eq_true (by kernel_rfl)) k0 bel lt0) trodAll_mk0), rfl, bel.frame _, fun h => by cases h⟩

theorem controlTurns_holds : Rows.ControlTurnsSaid :=
  OpenClaim.holds_of_wide 5 Try.f5 rfl rfl rfl rfl rfl rfl rfl ⟨rfl, rfl, rfl, rfl, rfl⟩ rfl rfl rfl rfl rfl (by kernel_rfl) Try.func5 (by kernel_rfl)
    (of_decide_eq_true (by kernel_rfl)) (by unfold Func.isWrapper; first | (rw [if_pos (by decide +kernel)]; kernel_rfl) | (rw [if_neg (by decide +kernel)]; exact ⟨rfl, rfl⟩))
    (fun os started H enc _ => turns_lifted os started H enc)

end Go.Proofs.Ytapoagpkjngjpaa
