/-
  PoolSaves, walked.
-/
import Derived.Test.YtakpkibjpjcgbaaPoKeepsM
namespace Go.Proofs.Ytakpkibjpjcgbaa
open Go.RowKit Go.Shelf
set_option linter.unusedSimpArgs false
set_option linter.unusedVariables false
set_option maxRecDepth 100000

theorem src_mid {w : World} {g a m c : Nat} {B : List Nat} {L : List Value} (hz : (L.drop a).take m = BV B) (h : Blk w g L 5) (hm : B.length = m) (hc : m ≤ c) (hB : ∀ x ∈ B, x < 256) : Src w (.slice (some ⟨g, a, none⟩) m c) B := by
  subst hm
  refine ⟨_, c, rfl, hc, hB, fun _ => ⟨g, a, rfl, ?_⟩, fun h => by cases h⟩
  have := h.cells a B.length
  rwa [hz] at this
set_option maxHeartbeats 2400000 in
theorem saves_at (w : World) (va vb : Value) (la lb : List Wv) (ha : WsAt w va la) (hb : WsAt w vb lb) (hla : la.length ≤ 1000000000000000000) (hlb : lb.length ≤ 1000000000000000000) :
    Calls Try.prog 5 #[va, vb] w fun e w' => e = .returned (.bool true) ∧ Kept (fun _ => False) w w' := by
  obtain ⟨aa, ca, rfl⟩ := ha.slice
  obtain ⟨ab, cb, rfl⟩ := hb.slice
  have HA := hide (fun (w' : World) (hk : Kept (fun _ => False) w w') => ha.kept hk)
  have HB := hide (fun (w' : World) (hk : Kept (fun _ => False) w w') => hb.kept hk)
  clear ha hb
  obtain ⟨na, hna⟩ : ∃ na, na = la.length := ⟨_, rfl⟩
  obtain ⟨nb, hnb⟩ : ∃ nb, nb = lb.length := ⟨_, rfl⟩
  rw [← hna] at hla HA ⊢
  rw [← hnb] at hlb HB ⊢
  have Hna := hide hna
  have Hnb := hide hnb
  clear hna hnb
  have hw : IntKind.i64.wrap ((na : Int) + (nb : Int)) = ((na + nb : Nat) : Int) := by rw [IntKind.wrap_i64]; omega
  obtain ⟨nn, hnn⟩ : ∃ nn, nn = na + nb := ⟨_, rfl⟩
  rw [← hnn] at hw
  have hnI : (na : Int) + (nb : Int) = (nn : Int) := by omega
  by_cases hbig : 40 < nn
  · have hbI : (40 : Int) < (nn : Int) := by omega
    clear hnn
    go_enter Try.func5, Try.ntmps5
    go_wp2_with (go_at_call 6; refine (first_at w).mono ?_; rintro e w1 ⟨rfl, hk1⟩; have K1 := hide hk1; clear hk1)
    go_ret
    exact ⟨rfl, K1.out⟩
  · have hbI : ¬ (40 : Int) < (nn : Int) := by omega
    have Hab : Hid (na ≤ 40 ∧ nb ≤ 40) := hide (by omega)
    clear hnn
    go_enter Try.func5, Try.ntmps5
    go_wp2_with (go_at_call 6; refine (first_at w).mono ?_; rintro e w1 ⟨rfl, hk1⟩; have K1 := hide hk1; clear hk1)
    refine (dnew_at w1 9 (by decide) (by decide)).mono ?_
    rintro e w2 ⟨db, F, rfl, hk2, hd2, hF2⟩
    have K2 := hide (K1.out.trans hk2 (fun _ _ h => h))
    have D2 := hide hd2
    have HF : Hid (∀ k, F k → w.heap.size ≤ k) := hide (fun k h => Nat.le_trans K1.out.size (hF2 k h))
    clear hk2 hd2 hF2 hw hnI hbI
    go_wp2_with fail
    refine (pnew_at w w2 db 9 F K2.out D2.out HF.out 2 6 (by decide) (by decide)).mono ?_
    rintro e w3 ⟨b, rfl, hp3, hk3⟩
    have I0 : Inv ⟨2, 6, [], []⟩ (D.DS.new 9) 9 := Inv.new (by decide)
    obtain ⟨l0, hl0⟩ : ∃ l0 : PL, l0 = ⟨2, 6, [], []⟩ := ⟨_, rfl⟩
    rw [← hl0] at hp3 I0
    have L0 : Hid (l0.fr = 2 ∧ l0.n = 6 ∧ l0.hand = [] ∧ l0.dirty = []) := hide (by rw [hl0]; exact ⟨rfl, rfl, rfl, rfl⟩)
    obtain ⟨s0, hs0⟩ : ∃ s0, s0 = D.DS.new 9 := ⟨_, rfl⟩
    have HS0 := hide hs0
    rw [← hs0] at hp3 I0
    have HI0 := hide I0
    have P3 := hide hp3
    have C0 : Hid (s0.calls = 0 ∧ s0.ws = []) := hide (by rw [hs0]; exact ⟨rfl, rfl⟩)
    clear hp3 hk3 I0 hl0 hs0 K2 D2 HF K1
    obtain ⟨l1, hl1⟩ : ∃ l1, l1 = l0.putE (la.map Wv.wr) := ⟨_, rfl⟩
    have I1 : Hid (Inv l1 s0 9) := hide (by rw [hl1]; exact HI0.out.putE _)
    have F1 : Hid (l1.fr = 2 ∧ l1.n = 6) := hide (by rw [hl1, (puts_fr _ _).1, (puts_fr _ _).2]; exact ⟨L0.out.1, L0.out.2.1⟩)
    have N1 : Hid (l1.hand.length ≤ 40 ∧ l1.dirty.length ≤ 40) := hide (by
      have h := putE_len l0 (la.map Wv.wr)
      rw [← hl1, L0.out.2.2.1, L0.out.2.2.2, List.length_map, ← Hna.out] at h
      have := Hab.out
      simp only [List.length_nil] at h
      omega)
    obtain ⟨ea, hea⟩ : ∃ ea, ea = withE l0.n (la.map Wv.wr) := ⟨_, rfl⟩
    have HP := hide (P3.out.put (.slice aa na ca) la (fun w' hk _ => HA.out w' hk) (by rw [L0.out.2.2.1, ← Hna.out]; have := Hab.out; simp; omega) (by rw [L0.out.2.2.2, ← Hna.out]; have := Hab.out; simp; omega))
    rw [← hl1, ← hea] at HP
    clear hl1 hea
    go_wp2_with fail
    refine HP.out.mono ?_
    rintro e w4 ⟨rfl, hp4, hT4⟩
    have P4 := hide hp4
    clear hp4 hT4 HP P3
    go_wp2_with fail
    refine (P4.out.save (by have := N1.out; omega) (by rw [C0.out.1]; decide) (by rw [C0.out.2]; decide) I1.out.kd).mono ?_
    rintro e w5 ⟨rfl, hp5, hT5⟩
    have S1 := saveD_bound l1 s0
    rw [C0.out.1, C0.out.2] at S1
    have I2 := I1.out.save.2.2.1
    have e2 := I1.out.save.2.1
    obtain ⟨l2, hl2⟩ : ∃ l2, l2 = l1.saveP s0 := ⟨_, rfl⟩
    obtain ⟨s1, hs1⟩ : ∃ s1, s1 = l1.saveD s0 := ⟨_, rfl⟩
    rw [← hl2, ← hs1] at I2 hp5
    rw [← hs1] at S1
    have L2 : Hid (l2.fr = 2 ∧ l2.n = 6 ∧ l2.hand.length ≤ 40 ∧ l2.dirty.length = 0) := hide (by rw [hl2, e2]; exact ⟨F1.out.1, F1.out.2, N1.out.1, rfl⟩)
    have P5 := hide hp5
    have HI2 := hide I2
    have HS1 : Hid (s1.calls ≤ 41 ∧ s1.ws.length ≤ 40) := hide (by have := N1.out; simp only [List.length_nil] at S1; omega)
    clear hp5 hT5 hl2 hs1 S1 I2 e2 P4
    go_wp2_with fail
    refine (P5.out.put (.slice ab nb cb) lb (fun w' hk _ => HB.out w' hk) (by rw [← Hnb.out]; have := Hab.out; have := L2.out; omega) (by rw [← Hnb.out]; have := Hab.out; have := L2.out; omega)).mono ?_
    rintro e w6 ⟨rfl, hp6, hT6⟩
    have I3 := HI2.out.putE (lb.map Wv.wr)
    have N3 : Hid ((l2.putE (lb.map Wv.wr)).hand.length ≤ 80 ∧ (l2.putE (lb.map Wv.wr)).dirty.length ≤ 80) := hide (by
      have h := putE_len l2 (lb.map Wv.wr)
      rw [List.length_map, ← Hnb.out] at h
      have := Hab.out
      have := L2.out
      omega)
    have F3 : Hid ((l2.putE (lb.map Wv.wr)).fr = 2 ∧ (l2.putE (lb.map Wv.wr)).n = 6) := hide (by rw [(puts_fr _ _).1, (puts_fr _ _).2]; exact ⟨L2.out.1, L2.out.2.1⟩)
    obtain ⟨l3, hl3⟩ : ∃ l3, l3 = l2.putE (lb.map Wv.wr) := ⟨_, rfl⟩
    rw [← hl3] at I3 N3 F3 hp6
    have P6 := hide hp6
    have HI3 := hide I3
    have SP := hide (saves_pure I3)
    have SE := hide I3.save.1
    have IM3 := hide I3.img
    clear hp6 hT6 hl3 I3 P5
    go_wp2_with fail
    refine (P6.out.image (by rw [F3.out.2]; decide) (by have := N3.out; omega)).mono ?_
    rintro e w7 ⟨dx, he, hp7, hk7, hd7, _⟩
    rw [IM3.out] at he
    have hd := hd7 IM3.out
    obtain ⟨px, rfl, _⟩ := hd.ptr
    subst he
    have P7 := hide hp7
    have DX7 := hide hd
    clear hp7 hk7 hd7 hd P6
    go_wp2_with fail
    refine (P7.out.save (by have := N3.out; omega) (by have := HS1.out; omega) (by have := HS1.out; omega) HI3.out.kd).mono ?_
    rintro e w8 ⟨he, hp8, hT8⟩
    rw [SE.out] at he
    subst he
    have P8 := hide hp8
    have DX8 := hide (hT8.dk DX7.out)
    clear hp8 hT8 P7 DX7
    go_wp2_with fail
    refine (P8.out.image (by rw [SP.out.2.2.1, F3.out.2]; decide) (by rw [HI3.out.save.2.1]; have := N3.out; show l3.hand.length ≤ 1000000; omega)).mono ?_
    rintro e w9 ⟨dy, he, hp9, hk9, hd9, _⟩
    rw [SP.out.1] at he
    have hd := hd9 SP.out.1
    rw [SP.out.2.2.1, SP.out.2.1] at hd
    obtain ⟨py, rfl, _⟩ := hd.ptr
    subst he
    have P9 := hide hp9
    have DY9 := hide hd
    have DX9 := hide (DX8.out.kept hk9)
    obtain ⟨XB, hXB⟩ : ∃ XB, XB = l3.imgK s1 l3.n := ⟨_, rfl⟩
    have HZ : Hid (((l3.saveD s1).st.drop 128).take 384 = BV XB) := hide (by
      have h := SP.out.2.2.2.2
      rw [F3.out.1, F3.out.2] at h
      rw [hXB, F3.out.2]
      exact h)
    rw [← hXB] at DX9 DY9
    have HXl : Hid (XB.length = 384) := hide (by have := DX9.out.len; rw [F3.out.2] at this; exact this)
    have HXt := hide DX9.out.lt
    obtain ⟨sz, hsz⟩ : ∃ sz, sz = (l3.saveD s1).st := ⟨_, rfl⟩
    have HSZ := hide hsz
    rw [← hsz] at HZ
    have HDn := hide SP.out.2.2.2.1
    obtain ⟨i5, hi5, hz5, hs5, hb5⟩ := info_parts Try.info5
    have Hi5 := hide hi5
    have Hs5 := hide hs5
    clear hp9 hk9 hd9 hd hXB hsz P8 DX8 hi5 hz5 hs5 hb5
    go_wp2_with fail
    refine hold_frame (p := fun fr => Code.wp Try.prog _ _ fr _) ?_
    intro fr hfr
    have e11 : fr.eval (.tmp 11) = .int .i64 0 := by rw [hfr.out]; rfl
    have e13 : fr.eval (.tmp 13) = .int .i64 0 := by rw [hfr.out]; rfl
    have e9 : fr.eval (.tmp 9) = .pointer px := by rw [hfr.out]; rfl
    have e12 : fr.eval (.tmp 12) = .pointer py := by rw [hfr.out]; rfl
    have e7 : fr.eval (.tmp 7) = .pointer (some ⟨b, 0, none⟩) := by rw [hfr.out]; rfl
    have e5 : fr.eval (.tmp 5) = .pointer (some ⟨db, 0, none⟩) := by rw [hfr.out]; rfl
    have hts : fr.tmps.size = 82 := by rw [hfr.out]; rfl
    refine region_S0 99 Try.mixed ?_
    intro w0 hkw hheap
    have PW := hide (P9.out.same hkw)
    have DXW := hide (DX9.out.kept hkw)
    have DYW := hide (DY9.out.kept hkw)
    have hS0 : Kept (fun _ => False) w0 w0 := Kept.refl (fun _ => False) w0
    refine ⟨Kept (fun _ => False) w0, ?_⟩
    refine tkS 0 51 (v := .int .i64 0) hS0 rfl rfl (by kernel_rfl) (by kernel_rfl) (by kernel_rfl) (by kernel_rfl) (wanted_none rfl) (fun _ _ _ h => h) (fun U hU => r_move (by simp [eval_put_ne, eval_put_eq, size_put, hts, e11])) ?_
    refine tkS 1 52 (v := .bool true) hS0 rfl rfl (by kernel_rfl) (by kernel_rfl) (by kernel_rfl) (by kernel_rfl) (wanted_none rfl) (fun _ _ _ h => h) (fun U hU => r_eE (p := 0) (q := 0) (by simp [eval_put_ne, eval_put_eq, size_put, hts]) rfl (by decide)) ?_
    refine tkS 2 53 (v := .bool true) hS0 rfl rfl (by kernel_rfl) (by kernel_rfl) (by kernel_rfl) (by kernel_rfl) (wanted_none rfl) (fun _ _ _ h => h) (fun U hU => r_move (by simp [eval_put_ne, eval_put_eq, size_put, hts])) ?_
    refine tkS 3 54 (v := .int .i64 0) hS0 rfl rfl (by kernel_rfl) (by kernel_rfl) (by kernel_rfl) (by kernel_rfl) (wanted_some (j := 2) (d := 53) (bb := true) rfl rfl rfl (by simp [eval_put_ne, eval_put_eq, size_put, hts]) (by simp [size_put, hts])) (fun _ _ _ h => h) (fun U hU => r_move (by simp [eval_put_ne, eval_put_eq, size_put, hts, e13])) ?_
    refine tkS 4 55 (v := .bool true) hS0 rfl rfl (by kernel_rfl) (by kernel_rfl) (by kernel_rfl) (by kernel_rfl) (wanted_some (j := 2) (d := 53) (bb := true) rfl rfl rfl (by simp [eval_put_ne, eval_put_eq, size_put, hts]) (by simp [size_put, hts])) (fun _ _ _ h => h) (fun U hU => r_eE (p := 0) (q := 0) (by simp [eval_put_ne, eval_put_eq, size_put, hts]) rfl (by decide)) ?_
    refine tkS 5 56 (v := .bool true) hS0 rfl rfl (by kernel_rfl) (by kernel_rfl) (by kernel_rfl) (by kernel_rfl) (wanted_none rfl) (fun _ _ _ h => h) (fun U hU => r_pick (by simp [eval_put_ne, eval_put_eq, size_put, hts]) (by simp [eval_put_ne, eval_put_eq, size_put, hts])) ?_
    refine tkS 6 57 (v := .bool true) hS0 rfl rfl (by kernel_rfl) (by kernel_rfl) (by kernel_rfl) (by kernel_rfl) (wanted_none rfl) (fun _ _ _ h => h) (fun U hU => r_move (by simp [eval_put_ne, eval_put_eq, size_put, hts])) ?_
    refine tkS 7 58 (v := .pointer px) hS0 rfl rfl (by kernel_rfl) (by kernel_rfl) (by kernel_rfl) (by kernel_rfl) (wanted_some (j := 6) (d := 57) (bb := true) rfl rfl rfl (by simp [eval_put_ne, eval_put_eq, size_put, hts]) (by simp [size_put, hts])) (fun _ _ _ h => h) (fun U hU => r_move (by simp [eval_put_ne, eval_put_eq, size_put, hts, e9])) ?_
    refine tkS 10 61 (v := .pointer py) hS0 rfl rfl (by kernel_rfl) (by kernel_rfl) (by kernel_rfl) (by kernel_rfl) (wanted_some (j := 6) (d := 57) (bb := true) rfl rfl rfl (by simp [eval_put_ne, eval_put_eq, size_put, hts]) (by simp [size_put, hts])) (fun _ _ _ h => h) (fun U hU => r_move (by simp [eval_put_ne, eval_put_eq, size_put, hts, e12])) ?_
    refine oneCS 8 59 (by kernel_rfl) rfl rfl (wanted_some (j := 6) (d := 57) (bb := true) rfl rfl rfl (by simp [eval_put_ne, eval_put_eq, size_put, hts]) (by simp [size_put, hts])) (r_call1 Try.func22 (by kernel_rfl) rfl rfl (by simp [eval_put_ne, eval_put_eq, size_put, hts])) (bytes_at w0 _ _ _ DXW.out) ?_
    rintro e v1 ⟨sx, rfl, ox, k1⟩
    refine ⟨_, rfl, k1, ?_⟩
    refine raiseM (S' := Kept (fun _ => False) v1) (fun U hU => k1.trans hU (fun _ _ h => h)) ?_
    have hS1 : Kept (fun _ => False) v1 v1 := Kept.refl _ v1
    refine tkS 9 60 (v := .string (strN XB)) hS1 rfl rfl (by kernel_rfl) (by kernel_rfl) (by kernel_rfl) (by kernel_rfl) (wanted_some (j := 6) (d := 57) (bb := true) rfl rfl rfl (by simp [eval_put_ne, eval_put_eq, size_put, hts]) (by simp [size_put, hts])) (fun _ _ _ h => h) (fun U hU => r_strS (by simp [eval_put_ne, eval_put_eq, size_put, hts]) (ox.src.kept hU)) ?_
    refine oneCS 11 62 (by kernel_rfl) rfl rfl (wanted_some (j := 6) (d := 57) (bb := true) rfl rfl rfl (by simp [eval_put_ne, eval_put_eq, size_put, hts]) (by simp [size_put, hts])) (r_call1 Try.func22 (by kernel_rfl) rfl rfl (by simp [eval_put_ne, eval_put_eq, size_put, hts])) (bytes_at v1 _ _ _ (DYW.out.kept k1)) ?_
    rintro e v2 ⟨sy, rfl, oy, k2⟩
    refine ⟨_, rfl, k2, ?_⟩
    refine raiseM (S' := Kept (fun _ => False) v2) (fun U hU => k2.trans hU (fun _ _ h => h)) ?_
    have hS2 : Kept (fun _ => False) v2 v2 := Kept.refl _ v2
    refine tkS 12 63 (v := .string (strN XB)) hS2 rfl rfl (by kernel_rfl) (by kernel_rfl) (by kernel_rfl) (by kernel_rfl) (wanted_some (j := 6) (d := 57) (bb := true) rfl rfl rfl (by simp [eval_put_ne, eval_put_eq, size_put, hts]) (by simp [size_put, hts])) (fun _ _ _ h => h) (fun U hU => r_strS (by simp [eval_put_ne, eval_put_eq, size_put, hts]) (oy.src.kept hU)) ?_
    refine tkS 13 64 (v := .bool true) hS2 rfl rfl (by kernel_rfl) (by kernel_rfl) (by kernel_rfl) (by kernel_rfl) (wanted_some (j := 6) (d := 57) (bb := true) rfl rfl rfl (by simp [eval_put_ne, eval_put_eq, size_put, hts]) (by simp [size_put, hts])) (fun _ _ _ h => h) (fun U hU => r_eqSS (A := XB) (by simp [eval_put_ne, eval_put_eq, size_put, hts]) (by simp [eval_put_ne, eval_put_eq, size_put, hts])) ?_
    refine tkS 14 65 (v := .bool true) hS2 rfl rfl (by kernel_rfl) (by kernel_rfl) (by kernel_rfl) (by kernel_rfl) (wanted_none rfl) (fun _ _ _ h => h) (fun U hU => r_pick (by simp [eval_put_ne, eval_put_eq, size_put, hts]) (by simp [eval_put_ne, eval_put_eq, size_put, hts])) ?_
    refine tkS 15 66 (v := .bool true) hS2 rfl rfl (by kernel_rfl) (by kernel_rfl) (by kernel_rfl) (by kernel_rfl) (wanted_none rfl) (fun _ _ _ h => h) (fun U hU => r_move (by simp [eval_put_ne, eval_put_eq, size_put, hts])) ?_
    refine tkS 16 67 (v := .pointer (some ⟨b, 0, none⟩)) hS2 rfl rfl (by kernel_rfl) (by kernel_rfl) (by kernel_rfl) (by kernel_rfl) (wanted_some (j := 15) (d := 66) (bb := true) rfl rfl rfl (by simp [eval_put_ne, eval_put_eq, size_put, hts]) (by simp [size_put, hts])) (fun _ _ _ h => h) (fun U hU => r_move (by simp [eval_put_ne, eval_put_eq, size_put, hts, e7])) ?_
    have PV := hide ((PW.out.same k1).same k2)
    refine oneCS 17 68 (by kernel_rfl) rfl rfl (wanted_some (j := 15) (d := 66) (bb := true) rfl rfl rfl (by simp [eval_put_ne, eval_put_eq, size_put, hts]) (by simp [size_put, hts])) (r_call1 Try.func16 (by kernel_rfl) rfl rfl (by simp [eval_put_ne, eval_put_eq, size_put, hts])) (PV.out.dirty (by rw [HDn.out]; exact Nat.zero_le _)) ?_
    rintro e v3 ⟨kv, rfl, ok, p3, k3⟩
    rw [HDn.out] at ok
    obtain ⟨ka, kc, rfl⟩ := ownsRow_slice ok
    simp only [List.length_nil]
    refine ⟨_, rfl, k3, ?_⟩
    refine raiseM (S' := Kept (fun _ => False) v3) (fun U hU => k3.trans hU (fun _ _ h => h)) ?_
    have hS3 : Kept (fun _ => False) v3 v3 := Kept.refl _ v3
    refine tkS 18 69 (v := .int .i64 (0 : Nat)) hS3 rfl rfl (by kernel_rfl) (by kernel_rfl) (by kernel_rfl) (by kernel_rfl) (wanted_some (j := 15) (d := 66) (bb := true) rfl rfl rfl (by simp [eval_put_ne, eval_put_eq, size_put, hts]) (by simp [size_put, hts])) (fun _ _ _ h => h) (fun U hU => r_lenI (a := ka) (n := 0) (c := kc) (by simp [eval_put_ne, eval_put_eq, size_put, hts])) ?_
    refine tkS 19 70 (v := .bool true) hS3 rfl rfl (by kernel_rfl) (by kernel_rfl) (by kernel_rfl) (by kernel_rfl) (wanted_some (j := 15) (d := 66) (bb := true) rfl rfl rfl (by simp [eval_put_ne, eval_put_eq, size_put, hts]) (by simp [size_put, hts])) (fun _ _ _ h => h) (fun U hU => r_e3 (p := ((0 : Nat) : Int)) (q := 0) (by simp [eval_put_ne, eval_put_eq, size_put, hts]) rfl (by decide)) ?_
    refine tkS 20 71 (v := .bool true) hS3 rfl rfl (by kernel_rfl) (by kernel_rfl) (by kernel_rfl) (by kernel_rfl) (wanted_none rfl) (fun _ _ _ h => h) (fun U hU => r_pick (by simp [eval_put_ne, eval_put_eq, size_put, hts]) (by simp [eval_put_ne, eval_put_eq, size_put, hts])) ?_
    refine tkS 21 72 (v := .bool true) hS3 rfl rfl (by kernel_rfl) (by kernel_rfl) (by kernel_rfl) (by kernel_rfl) (wanted_none rfl) (fun _ _ _ h => h) (fun U hU => r_move (by simp [eval_put_ne, eval_put_eq, size_put, hts])) ?_
    refine tkS 22 73 (v := .pointer (some ⟨db, 0, none⟩)) hS3 rfl rfl (by kernel_rfl) (by kernel_rfl) (by kernel_rfl) (by kernel_rfl) (wanted_some (j := 21) (d := 72) (bb := true) rfl rfl rfl (by simp [eval_put_ne, eval_put_eq, size_put, hts]) (by simp [size_put, hts])) (fun _ _ _ h => h) (fun U hU => r_move (by simp [eval_put_ne, eval_put_eq, size_put, hts, e5])) ?_
    refine tkS 26 77 (v := .pointer px) hS3 rfl rfl (by kernel_rfl) (by kernel_rfl) (by kernel_rfl) (by kernel_rfl) (wanted_some (j := 21) (d := 72) (bb := true) rfl rfl rfl (by simp [eval_put_ne, eval_put_eq, size_put, hts]) (by simp [size_put, hts])) (fun _ _ _ h => h) (fun U hU => r_move (by simp [eval_put_ne, eval_put_eq, size_put, hts, e9])) ?_
    refine oneCS 23 74 (by kernel_rfl) rfl rfl (wanted_some (j := 21) (d := 72) (bb := true) rfl rfl rfl (by simp [eval_put_ne, eval_put_eq, size_put, hts]) (by simp [size_put, hts])) (r_call1 Try.func26 (by kernel_rfl) rfl rfl (by simp [eval_put_ne, eval_put_eq, size_put, hts])) (p3.dimage) ?_
    rintro e v4 ⟨gi, rfl, bi, p4, k4⟩
    rw [← HSZ.out] at bi
    refine ⟨_, rfl, k4, ?_⟩
    refine raiseM (S' := Kept (fun _ => False) v4) (fun U hU => k4.trans hU (fun _ _ h => h)) ?_
    have hS4 : Kept (fun _ => False) v4 v4 := Kept.refl _ v4
    refine tkS 24 75 (v := .slice (some ⟨gi, 0 + 128, none⟩) (512 - 128) (576 - 128)) hS4 rfl rfl (by kernel_rfl) (by kernel_rfl) (by kernel_rfl) (by kernel_rfl) (wanted_some (j := 21) (d := 72) (bb := true) rfl rfl rfl (by simp [eval_put_ne, eval_put_eq, size_put, hts]) (by simp [size_put, hts])) (fun _ _ _ h => h) (fun U hU => run_slice_mid (len := 576) (cap := 576) Try.underlying41 Hi5.out Hs5.out (by simp [eval_put_ne, eval_put_eq, size_put, hts]) 128 512 rfl rfl (by decide) (by decide) (by decide)) ?_
    refine tkS 25 76 (v := .string (strN XB)) hS4 rfl rfl (by kernel_rfl) (by kernel_rfl) (by kernel_rfl) (by kernel_rfl) (wanted_some (j := 21) (d := 72) (bb := true) rfl rfl rfl (by simp [eval_put_ne, eval_put_eq, size_put, hts]) (by simp [size_put, hts])) (fun _ _ _ h => h) (fun U hU => r_strS (by simp [eval_put_ne, eval_put_eq, size_put, hts]) (src_mid (a := 128) (m := 384) (c := 448) HZ.out (hU.blk bi (fun h => h)) HXl.out (by decide) HXt.out)) ?_
    refine oneCS 27 78 (by kernel_rfl) rfl rfl (wanted_some (j := 21) (d := 72) (bb := true) rfl rfl rfl (by simp [eval_put_ne, eval_put_eq, size_put, hts]) (by simp [size_put, hts])) (r_call1 Try.func22 (by kernel_rfl) rfl rfl (by simp [eval_put_ne, eval_put_eq, size_put, hts])) (bytes_at v4 _ _ _ ((((DXW.out.kept k1).kept k2).kept k3).kept k4)) ?_
    rintro e v5 ⟨sq, rfl, oq, k5⟩
    refine ⟨_, rfl, k5, ?_⟩
    refine raiseM (S' := Kept (fun _ => False) v5) (fun U hU => k5.trans hU (fun _ _ h => h)) ?_
    have hS5 : Kept (fun _ => False) v5 v5 := Kept.refl _ v5
    refine tkS 28 79 (v := .string (strN XB)) hS5 rfl rfl (by kernel_rfl) (by kernel_rfl) (by kernel_rfl) (by kernel_rfl) (wanted_some (j := 21) (d := 72) (bb := true) rfl rfl rfl (by simp [eval_put_ne, eval_put_eq, size_put, hts]) (by simp [size_put, hts])) (fun _ _ _ h => h) (fun U hU => r_strS (by simp [eval_put_ne, eval_put_eq, size_put, hts]) (oq.src.kept hU)) ?_
    refine tkS 29 80 (v := .bool true) hS5 rfl rfl (by kernel_rfl) (by kernel_rfl) (by kernel_rfl) (by kernel_rfl) (wanted_some (j := 21) (d := 72) (bb := true) rfl rfl rfl (by simp [eval_put_ne, eval_put_eq, size_put, hts]) (by simp [size_put, hts])) (fun _ _ _ h => h) (fun U hU => r_eqSS (A := XB) (by simp [eval_put_ne, eval_put_eq, size_put, hts]) (by simp [eval_put_ne, eval_put_eq, size_put, hts])) ?_
    refine tkS 30 81 (v := .bool true) hS5 rfl rfl (by kernel_rfl) (by kernel_rfl) (by kernel_rfl) (by kernel_rfl) (wanted_none rfl) (fun _ _ _ h => h) (fun U hU => r_pick (by simp [eval_put_ne, eval_put_eq, size_put, hts]) (by simp [eval_put_ne, eval_put_eq, size_put, hts])) ?_
    refine tkS 31 4 (v := .bool true) hS5 rfl rfl (by kernel_rfl) (by kernel_rfl) (by kernel_rfl) (by kernel_rfl) (wanted_none rfl) (fun _ _ _ h => h) (fun U hU => r_assign (by simp [eval_put_ne, eval_put_eq, size_put, hts])) ?_
    refine doneS (by kernel_rfl) ?_
    have KF := hide (p4.kept.trans k5 (fun _ _ h => h))
    rw [hfr.out]
    clear hfr e11 e13 e9 e12 e7 e5 hts
    simp only [put_lit, put_none, List.set_cons_succ, List.set_cons_zero]
    go_wp2
    go_ret
    exact ⟨rfl, KF.out⟩
end Go.Proofs.Ytakpkibjpjcgbaa
