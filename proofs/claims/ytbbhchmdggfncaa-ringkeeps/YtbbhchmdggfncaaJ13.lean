/-
  A block's 64 bytes, scanned one by one: plain functions over lists.
-/
import Derived.Test.YtbbhchmdggfncaaJ12
namespace Go.Proofs.Ytbbhchmdggfncaa
set_option linter.unusedSimpArgs false
set_option linter.unusedVariables false
set_option maxRecDepth 100000

def InB (S0 : List Nat) (E0 : Int) (j : Nat) (S : List Nat) (E : Int) (L : List Nat) : Prop :=
  L.length = 64 ∧ (∀ x ∈ L, x < 256) ∧ S.length ≤ S0.length ∧ (E = 0 → E0 = 0 ∧ j ≤ S0.length ∧ S = S0.drop j ∧ L.take j = S0.take j) ∧ (E ≠ 0 → E0 ≠ 0 ∨ S0.length < 64)
theorem InB.start (S0 : List Nat) (E0 : Int) : InB S0 E0 0 S0 E0 (List.replicate 64 0) :=
  ⟨by simp, by intro x hx; rw [List.eq_of_mem_replicate hx]; decide, Nat.le_refl _, fun h => ⟨h, Nat.zero_le _, by simp, by simp⟩, fun h => .inl h⟩
theorem scan1_yes {S : List Nat} {x : Nat} {R : List Nat} (h : S = x :: R) (hx : x < 256) : scanNum S 0 1 = ((x : Int), R, 0) := by
  subst h
  have := sn1 x R hx
  rwa [show numB x 1 = [x] by simp [numB]; omega] at this
theorem scan_no {S : List Nat} {m : Int} (h : (S.length : Int) < m) : scanNum S 0 m = (0, S, 20) := by
  have hf : firstN S m = none := by
    unfold firstN
    rw [if_neg (by omega)]
  simp [scanNum, hf]
theorem scan_nat (S : List Nat) (E m : Int) : ∃ p : Nat, (scanNum S E m).1 = (p : Int) := by
  unfold scanNum
  split
  · exact ⟨0, rfl⟩
  · split
    · exact ⟨0, rfl⟩
    · exact ⟨_, rfl⟩
theorem InB.step {S0 : List Nat} {E0 : Int} {j : Nat} {S : List Nat} {E : Int} {L : List Nat} (h : InB S0 E0 j S E L) (hj : j < 64) (hS : ∀ x ∈ S, x < 256) {p : Nat} (hp : (scanNum S E 1).1 = (p : Int)) :
    InB S0 E0 (j + 1) (scanNum S E 1).2.1 (scanNum S E 1).2.2 (L.set j (p % 256)) := by
  obtain ⟨h1, h2, h3, h4, h5⟩ := h
  have hL : ∀ x ∈ L.set j (p % 256), x < 256 := by
    intro x hx
    rcases List.mem_or_eq_of_mem_set hx with h | h
    · exact h2 x h
    · rw [h]; exact Nat.mod_lt _ (by decide)
  have hlen := scanNum_len S E 1
  by_cases hE : E = 0
  · subst hE
    obtain ⟨e0, e1, e2, e3⟩ := h4 rfl
    by_cases hlt : j < S0.length
    · have hSx : S = S0[j] :: S0.drop (j + 1) := by rw [e2]; exact List.drop_eq_getElem_cons hlt
      have hx : S0[j] < 256 := hS _ (by rw [hSx]; exact List.mem_cons_self)
      have hsc := scan1_yes hSx hx
      rw [hsc] at hp ⊢
      simp only at hp ⊢
      have hpx : p = S0[j] := by omega
      refine ⟨by simp [h1], hL, by rw [List.length_drop]; omega, fun _ => ⟨e0, by omega, rfl, ?_⟩, fun h => absurd rfl h⟩
      rw [List.take_succ_eq_append_getElem hlt, List.take_set, List.take_succ_eq_append_getElem (by omega), hpx, Nat.mod_eq_of_lt hx, ← e3]
      have hlj : (L.take j).length = j := by rw [List.length_take]; omega
      rw [List.set_append_right _ _ (by omega), hlj, Nat.sub_self]
      rfl
    · have hS0 : S = [] := by rw [e2]; exact List.drop_of_length_le (by omega)
      have hsc := scan_no (S := S) (m := 1) (by rw [hS0]; simp)
      rw [hsc]
      exact ⟨by simp [h1], hL, h3, fun h => absurd h (by simp), fun _ => .inr (by omega)⟩
  · rw [scanNum_err 1 hE] at hp hlen ⊢
    exact ⟨by simp [h1], hL, h3, fun h => absurd h hE, fun _ => h5 hE⟩
theorem InB.fin {S0 : List Nat} {E0 : Int} {S : List Nat} {L : List Nat} (h : InB S0 E0 64 S 0 L) : E0 = 0 ∧ 64 ≤ S0.length ∧ S = S0.drop 64 ∧ L = S0.take 64 := by
  obtain ⟨h1, h2, h3, h4, h5⟩ := h
  obtain ⟨a, b, c, d⟩ := h4 rfl
  exact ⟨a, b, c, by rw [← d, List.take_of_length_le (by omega)]⟩
theorem scan2_bad {S : List Nat} (hS : ∀ x ∈ S, x < 256) (h : (scanNum S 0 2).2.2 ≠ 0) : (scanNum S 0 2).2.1.length < 64 := by
  by_cases hl : 2 ≤ S.length
  · exfalso
    apply h
    have hf := (first_yes hS 2 (by decide) (by decide) hl (by omega)).1
    have hf' : firstN S 2 = some (valN (S.take 2)) := hf
    simp [scanNum, hf']
  · rw [scan_no (by omega)]
    simp
    omega
/-- What the program's way tells of what the reference's way tells. -/
def GW (B : List Nat) (E : Int) (l : List Wr) (S' : List Nat) (E' : Int) : Prop :=
  (E' = 0 ↔ (scanWs (scanNum B E 2).1.toNat (scanNum B E 2).2.1 (scanNum B E 2).2.2).2.2 = 0) ∧ (E' = 0 → scanWs (scanNum B E 2).1.toNat (scanNum B E 2).2.1 (scanNum B E 2).2.2 = (l, S', 0))
end Go.Proofs.Ytbbhchmdggfncaa


/-
  getWrites, of package record.
-/
namespace Go.Proofs.Ytbbhchmdggfncaa
open Go.RowKit Go.Shelf
set_option linter.unusedSimpArgs false
set_option linter.unusedVariables false
set_option maxRecDepth 100000

theorem Sc.blk {N : Nat} {w : World} {s : Nat} {B : List Nat} {E : Int} (h : Sc N w s B E) : ∃ L, Blk w s L 133 := by
  obtain ⟨_, _, v, h3, _⟩ := h
  exact ⟨_, h3.1⟩
section
variable {ρ : Operand → Value} {w : World} {dst : Option Tmp} {ty : TypeId} {pos : String} {aft : Array Edge} {gd : Option (Nat × Bool)} {x y z : Operand}
theorem r_fld40 {b o : Nat} (hx : ρ x = .pointer (some ⟨b, o, none⟩)) : (execOp ρ ⟨dst, .fieldAddr 39 x 1, ty, pos, aft, gd⟩).run Try.prog w = .ok (.value (.pointer (some ⟨b, o + 1, none⟩))) w := by
  go_simp
theorem r_ix25 {b off len cap : Nat} (i : Nat) {k : IntKind} (hx : ρ x = .slice (some ⟨b, off, none⟩) len cap) (hy : ρ y = .int k i) (hi : i < len) :
    (execOp ρ ⟨dst, .indexAddr 22 x y, ty, pos, aft, gd⟩).run Try.prog w = .ok (.value (.pointer (some ⟨b, off + i, none⟩))) w := by
  have h0 : ¬ ((i : Int) < 0) := by omega
  have h1 : (i : Int) < (len : Int) := by omega
  go_simp
end
theorem scan2_le {B : List Nat} (hB : ∀ x ∈ B, x < 256) {E : Int} {n : Nat} (h : (scanNum B E 2).1 = (n : Int)) : n ≤ 65535 ∧ (0 < n → (scanNum B E 2).2.2 = 0) := by
  by_cases hE : (scanNum B E 2).2.2 = 0
  · obtain ⟨_, m, hm, h1, _, _⟩ := scanNum_inv (w := 2) hB hE
    have hm' : scanNum B E 2 = ((m : Int), B.drop 2, 0) := hm
    rw [hm'] at h
    simp at h
    have : m < 65536 := by simpa using h1
    exact ⟨by omega, fun _ => hE⟩
  · have h0 : (scanNum B E 2).1 = 0 := by
      unfold scanNum at hE ⊢
      split
      · rfl
      · rename_i hh
        rw [if_neg hh] at hE
        split
        · rfl
        · rename_i hf
          rw [hf] at hE
          simp at hE
    rw [h0] at h
    exact ⟨by omega, fun hn => by omega⟩
theorem scanWs_step {m : Nat} {S : List Nat} (hl : ¬ (scanNum S 0 2).2.1.length < 64) : scanWs (m + 1) S 0 = (⟨(scanNum S 0 2).1, (scanNum S 0 2).2.1.take 64⟩ :: (scanWs m ((scanNum S 0 2).2.1.drop 64) (scanNum S 0 2).2.2).1, (scanWs m ((scanNum S 0 2).2.1.drop 64) (scanNum S 0 2).2.2).2) := by
  conv => lhs; unfold scanWs
  rw [if_neg (by simp), if_neg hl]
theorem scanWs_bad {m : Nat} {S : List Nat} (hl : (scanNum S 0 2).2.1.length < 64) : scanWs (m + 1) S 0 = ([], (scanNum S 0 2).2.1, 20) := by
  unfold scanWs
  rw [if_neg (by simp), if_pos hl]

/-- The blocks of some writes are at N's end or beyond. -/
def NewOf (N : Nat) (v : Value) (l : List Wv) : Prop := (∀ k, v.ownBlock = some k → N ≤ k) ∧ ∀ x ∈ l, ∀ k, x.s.v.ownBlock = some k → N ≤ k
theorem NewOf.nil (N : Nat) : NewOf N (.slice none 0 0) [] := ⟨fun k h => by simp [Value.ownBlock] at h, by simp⟩
theorem NewOf.le {N M : Nat} {v : Value} {l : List Wv} (h : NewOf N v l) (hM : M ≤ N) : NewOf M v l := ⟨fun k hk => Nat.le_trans hM (h.1 k hk), fun x hx k hk => Nat.le_trans hM (h.2 x hx k hk)⟩
set_option maxRecDepth 100000 in
set_option maxHeartbeats 8000000 in
theorem getWrites_at (N : Nat) (w : World) (s : Nat) (B : List Nat) (E : Int) (h : Sc N w s B E) (hl : B.length ≤ 80000000) :
    Calls Try.prog 77 #[.pointer (some ⟨s, 0, none⟩)] w fun e w' => ∃ (t : Sl) (ws : List Wv) (S' : List Nat) (E' : Int), e = .returned (.slice t.a t.n t.c) ∧ Sc N w' s S' E' ∧ WsOwn w' t.v ws ∧ ws.length ≤ 65535 ∧ Kept (fun k => k = s) w w' ∧ GW B E (ws.map Wv.wr) S' E' ∧ NewOf w.heap.size t.v ws := by
  have hsN : s < N := h.1
  have hNw : N ≤ w.heap.size := h.2.1
  obtain ⟨nn, hnn⟩ := scan_nat B E 2
  have hnl := scan2_le h.lt hnn
  have hcall := snum_sc N w s B E h (by omega) 2
  have hS0l := scanNum_len B E 2
  have HG : Hid (∀ l S' E', ((E' = 0 ↔ (scanWs nn (scanNum B E 2).2.1 (scanNum B E 2).2.2).2.2 = 0) ∧ (E' = 0 → scanWs nn (scanNum B E 2).2.1 (scanNum B E 2).2.2 = (l, S', 0))) → GW B E l S' E') := hide (fun l S' E' hh => by
    unfold GW
    rw [hnn, Int.toNat_natCast]
    exact hh)
  rw [hnn] at hcall
  obtain ⟨S0, hS0⟩ : ∃ x, x = (scanNum B E 2).2.1 := ⟨_, rfl⟩
  obtain ⟨E0, hE0⟩ : ∃ x, x = (scanNum B E 2).2.2 := ⟨_, rfl⟩
  rw [← hS0, ← hE0] at hcall HG
  rw [← hS0] at hS0l
  rw [← hE0] at hnl
  have HC := hide hcall
  obtain ⟨hnle, hn0⟩ := hnl
  have HN0 := hide hn0
  obtain ⟨i5, hi5, hz5, hs5, hb5⟩ := info_parts Try.info5
  obtain ⟨i4, hi4, hz4, hs4, hb4⟩ := info_parts Try.info39
  have Hi5 := hide hi5
  have Hz5 := hide hz5
  have Hs5 := hide hs5
  have Hb5 := hide hb5
  have Hi4 := hide hi4
  have Hz4 := hide hz4
  have Hs4 := hide hs4
  clear h hcall hS0 hE0 hn0 hnn hi5 hz5 hs5 hb5 hi4 hz4 hs4 hb4
  go_enter Try.func77, Try.ntmps77
  go_wp2_with fail
  refine HC.out.mono ?_
  rintro e w1 ⟨rfl, hsc1, hk1⟩
  have HS1 := hide hsc1
  have HK1 := hide hk1
  clear hsc1 hk1 HC
  go_wp2
  go_loopw [3, 8] (fun tv iv wr => ∃ (t : Sl) (i : Nat) (ws : List Wv) (S : List Nat) (Ec : Int), tv = .slice t.a t.n t.c ∧ iv = .int .i64 i ∧ i ≤ nn ∧ ws.length = i ∧ S.length ≤ 80000000 ∧ Hid (WsOwn wr t.v ws) ∧ Hid (Sc N wr s S Ec) ∧ Hid (scanWs nn S0 E0 = (ws.map Wv.wr ++ (scanWs (nn - i) S Ec).1, (scanWs (nn - i) S Ec).2)) ∧ Hid (i < nn → Ec = 0) ∧ Hid (Kept (fun k => k = s) w wr) ∧ Hid (NewOf w.heap.size t.v ws))
    (fun _ i _ => nn - (intOf i).toNat)
  case atStart => exact ⟨⟨none, 0, 0⟩, 0, [], S0, E0, rfl, rfl, Nat.zero_le _, rfl, by omega, hide (WsOwn.nil _), HS1, hide (by simp), HN0, HK1, hide (NewOf.nil _)⟩
  case round =>
    obtain ⟨⟨ta, tn, tc⟩, i, ws, S, Ec, rfl, rfl, hi, hwi, hSl, HO, HS, HQ, HE, HK, HNB⟩ := hrel
    clear HS1 HK1
    by_cases hlt : i < nn
    · obtain rfl : Ec = 0 := HE.out hlt
      have hwr : N ≤ wr.heap.size := HS.out.2.1
      obtain ⟨Ls, hLs⟩ := HS.out.blk
      have HOl : Hid ((∀ k, (Value.slice ta tn tc).ownBlock = some k → k ≠ s) ∧ ∀ x ∈ ws, ∀ k, x.s.v.ownBlock = some k → k < wr.heap.size ∧ k ≠ s) := hide ⟨fun k hk e => ownsRow_blk_ne HO.out.1 hLs (by decide) (e ▸ hk), fun x hx k hk => ⟨(HO.out.2 x hx).lt k hk, fun e => (HO.out.2 x hx).blk_ne hLs (by decide) (e ▸ hk)⟩⟩
      clear hLs Ls
      obtain ⟨q1, hq1⟩ : ∃ x, x = (scanNum S 0 2).1 := ⟨_, rfl⟩
      obtain ⟨S1, hS1⟩ : ∃ x, x = (scanNum S 0 2).2.1 := ⟨_, rfl⟩
      obtain ⟨E1, hE1⟩ : ∃ x, x = (scanNum S 0 2).2.2 := ⟨_, rfl⟩
      have HC2 : Hid (∀ U, Sc N U s S 0 → Calls Try.prog 76 #[.pointer (some ⟨s, 0, none⟩), .int .i64 2] U fun e w' => e = .returned (.int .i64 q1) ∧ Sc N w' s S1 E1 ∧ Kept (fun k => k = s) U w') := hide (fun U hU => by rw [hq1, hS1, hE1]; exact snum_sc N U s S 0 hU (by omega) 2)
      have HS1l : Hid (S1.length ≤ 80000000) := hide (by rw [hS1]; have := scanNum_len S 0 2; omega)
      have HSTEP : Hid ((E1 ≠ 0 ∨ S1.length < 64 → (scanWs (nn - i) S 0).2.2 ≠ 0) ∧ (E1 = 0 → 64 ≤ S1.length → scanWs (nn - i) S 0 = (⟨q1, S1.take 64⟩ :: (scanWs (nn - (i + 1)) (S1.drop 64) 0).1, (scanWs (nn - (i + 1)) (S1.drop 64) 0).2))) := hide (by
        have e : nn - i = (nn - (i + 1)) + 1 := by omega
        have hSlt := HS.out.lt
        rw [e]
        constructor
        · intro hh
          have : (scanNum S 0 2).2.1.length < 64 := by
            rcases hh with hh | hh
            · exact scan2_bad hSlt (by rw [← hE1]; exact hh)
            · rw [← hS1]; exact hh
          rw [scanWs_bad this]
          simp
        · intro h0 h64
          rw [scanWs_step (by rw [← hS1]; omega), ← hq1, ← hS1, ← hE1, h0])
      clear hq1 hS1 hE1 HE
      go_wp2
      refine hold_frame (p := fun fr => Code.wp Try.prog _ _ fr _) ?_
      intro fr hfr
      have e0 : fr.eval (.tmp 0) = .pointer (some ⟨s, 0, none⟩) := by rw [hfr.out]; rfl
      have hts : fr.tmps.size = 37 := by rw [hfr.out]; rfl
      refine Code.wp_mono (Q := fun e a' w' => e = .normal ∧ ∃ b4 bs : Nat, a' = ((((fr.put (some 10) (.pointer (some ⟨s, 0, none⟩))).put (some 11) (.int .i64 q1)).put (some 12) (.slice (some ⟨bs, 0, none⟩) 64 64)).put (some 13) (.agg #[.int .i64 q1, .slice (some ⟨bs, 0, none⟩) 64 64])).put (some 4) (.pointer (some ⟨b4, 0, none⟩)) ∧ Sc N w' s S1 E1 ∧ Blk w' b4 [.int .i64 q1, .slice (some ⟨bs, 0, none⟩) 64 64] 39 ∧ Blk w' bs (BV (List.replicate 64 0)) 5 ∧ Kept (fun k => k = s) wr w' ∧ wr.heap.size ≤ b4 ∧ wr.heap.size ≤ bs) ?rest ?first
      case first =>
        refine region_S 5 (fun _ => True) Try.mixed ?_
        intro w0 hkw hheap
        have hSc := HS.out.kept hkw (fun _ _ h => h)
        have hKK : Kept (fun k => k = s) wr w0 := hkw.mono (fun _ _ h => h.elim)
        have hT : (fun _ : World => True) w0 := trivial
        refine tkS 0 10 (v := .pointer (some ⟨s, 0, none⟩)) trivial rfl rfl (by kernel_rfl) (by kernel_rfl) (by kernel_rfl) (by kernel_rfl) (wanted_none rfl) (fun _ _ _ h => absurd h.1 (by simp)) (fun U hU => r_move (by simp [eval_put_ne, eval_put_eq, size_put, hts, e0])) ?_
        have hSc_w0 := hSc
        have hKK_w0 := hKK
        refine threeS 1 2 4 (by kernel_rfl) ?_ ?_ ?_
        · refine stepCS 1 11 rfl rfl (wanted_none rfl) (r_call2 Try.func76 (by kernel_rfl) rfl rfl (by simp [eval_put_ne, eval_put_eq, size_put, hts, e0]) rfl) (HC2.out w0 hSc_w0) ?_
          rintro e u1 ⟨rfl, hSc_u1, hk_u1⟩
          refine ⟨_, rfl, trivial, ?_⟩
          have hKK_u1 : Kept (fun k => k = s) wr u1 := hKK_w0.trans hk_u1 (fun _ _ h => h)
          refine twoS 2 4 (by kernel_rfl) ?_ ?_
          · refine stepVS 2 12 (v := .slice (some ⟨u1.heap.size, 0, none⟩) 64 64) rfl rfl (wanted_none rfl) (run_make_op 1 (by decide) Try.underlying22 Hi5.out Hz5.out (z := .int .u8 0) rfl Hs5.out 64 rfl rfl (by rw [Hb5.out]; decide) (by decide)) (fun _ => trivial) ?_
            have hBS_u2 : Blk (u1.alloc (.cells (List.replicate (64 * 1) (.int .u8 0)).toArray 5)) u1.heap.size (BV (List.replicate 64 0)) 5 := Blk.new u1 (List.replicate (64 * 1) (.int .u8 0)) 5
            have hk_u2 : Kept (fun _ => False) u1 (u1.alloc (.cells (List.replicate (64 * 1) (.int .u8 0)).toArray 5)) := Kept.alloc _ _ _
            have hls : wr.heap.size ≤ u1.heap.size := hKK_u1.size
            have hsz_u2 : (u1.alloc (.cells (List.replicate (64 * 1) (.int .u8 0)).toArray 5)).heap.size = u1.heap.size + 1 := by simp
            generalize u1.alloc (.cells (List.replicate (64 * 1) (.int .u8 0)).toArray 5) = u2 at hBS_u2 hk_u2 hsz_u2 ⊢
            have hKK_u2 : Kept (fun k => k = s) wr u2 := hKK_u1.trans hk_u2 (fun _ _ h => h.elim)
            have hSc_u2 := hSc_u1.kept hk_u2 (fun _ _ h => h)
            refine tkS 3 13 (v := .agg #[.int .i64 q1, .slice (some ⟨u1.heap.size, 0, none⟩) 64 64]) trivial rfl rfl (by kernel_rfl) (by kernel_rfl) (by kernel_rfl) (by kernel_rfl) (wanted_none rfl) (fun _ _ _ h => absurd h.1 (by simp)) (fun U hU => built40 (by simp [eval_put_ne, eval_put_eq, size_put, hts, e0]) (by simp [eval_put_ne, eval_put_eq, size_put, hts, e0])) ?_
            refine oneS 4 (by kernel_rfl) ?_
            · refine stepVS 4 4 (v := .pointer (some ⟨u2.heap.size, 0, none⟩)) rfl rfl (wanted_none rfl) (run_alloc_agg Hi4.out Hz4.out) (fun _ => trivial) ?_
              have hB4_u3 : Blk (u2.alloc (.cells (Value.agg #[.int .i64 0, .slice none 0 0]).cells 39)) u2.heap.size [.int .i64 0, .slice none 0 0] 39 := Blk.newA u2 _ 39
              have hk_u3 : Kept (fun _ => False) u2 (u2.alloc (.cells (Value.agg #[.int .i64 0, .slice none 0 0]).cells 39)) := Kept.alloc _ _ _
              have hl4 : wr.heap.size ≤ u2.heap.size := hKK_u2.size
              generalize u2.alloc (.cells (Value.agg #[.int .i64 0, .slice none 0 0]).cells 39) = u3 at hB4_u3 hk_u3 ⊢
              have hKK_u3 : Kept (fun k => k = s) wr u3 := hKK_u2.trans hk_u3 (fun _ _ h => h.elim)
              have hSc_u3 := hSc_u2.kept hk_u3 (fun _ _ h => h)
              have hBS_u3 := hk_u3.blk hBS_u2 (fun h => h)
              refine lastS (by kernel_rfl) rfl (wanted_none rfl) (run_store_agg (b := u2.heap.size) (off := 0) (L := [.int .i64 0, .slice none 0 0]) (M := [.int .i64 q1, .slice (some ⟨u1.heap.size, 0, none⟩) 64 64]) Try.agg39 (by simp [eval_put_ne, eval_put_eq, size_put, hts, e0]) (by simp [eval_put_ne, eval_put_eq, size_put, hts, e0]) rfl (by simp [Value.oneCell']) hB4_u3 (by simp)) (by kernel_rfl) ?_
              refine ⟨rfl, u2.heap.size, u1.heap.size, ?_, ?_, hB4_u3.setRow _, ?_, ?_, hl4, hls⟩
              · rw [hfr.out]; rfl
              · exact hSc_u3.kept (Kept.setRow (S := fun k => k = u2.heap.size) _ _ _ rfl) (fun k hk e => by omega)
              · exact (Kept.setRow (S := fun k => k = u2.heap.size) _ _ _ rfl).blk hBS_u3 (fun e => (hBS_u3.ne hB4_u3 (by decide)) e)
              · exact hKK_u3.trans (Kept.setRow (S := fun k => k = u2.heap.size) _ _ _ rfl) (fun k hk e => by omega)
          · refine stepVS 4 4 (v := .pointer (some ⟨u1.heap.size, 0, none⟩)) rfl rfl (wanted_none rfl) (run_alloc_agg Hi4.out Hz4.out) (fun _ => trivial) ?_
            have hB4_u4 : Blk (u1.alloc (.cells (Value.agg #[.int .i64 0, .slice none 0 0]).cells 39)) u1.heap.size [.int .i64 0, .slice none 0 0] 39 := Blk.newA u1 _ 39
            have hk_u4 : Kept (fun _ => False) u1 (u1.alloc (.cells (Value.agg #[.int .i64 0, .slice none 0 0]).cells 39)) := Kept.alloc _ _ _
            have hl4 : wr.heap.size ≤ u1.heap.size := hKK_u1.size
            generalize u1.alloc (.cells (Value.agg #[.int .i64 0, .slice none 0 0]).cells 39) = u4 at hB4_u4 hk_u4 ⊢
            have hKK_u4 : Kept (fun k => k = s) wr u4 := hKK_u1.trans hk_u4 (fun _ _ h => h.elim)
            have hSc_u4 := hSc_u1.kept hk_u4 (fun _ _ h => h)
            refine oneS 2 (by kernel_rfl) ?_
            · refine stepVS 2 12 (v := .slice (some ⟨u4.heap.size, 0, none⟩) 64 64) rfl rfl (wanted_none rfl) (run_make_op 1 (by decide) Try.underlying22 Hi5.out Hz5.out (z := .int .u8 0) rfl Hs5.out 64 rfl rfl (by rw [Hb5.out]; decide) (by decide)) (fun _ => trivial) ?_
              have hBS_u5 : Blk (u4.alloc (.cells (List.replicate (64 * 1) (.int .u8 0)).toArray 5)) u4.heap.size (BV (List.replicate 64 0)) 5 := Blk.new u4 (List.replicate (64 * 1) (.int .u8 0)) 5
              have hk_u5 : Kept (fun _ => False) u4 (u4.alloc (.cells (List.replicate (64 * 1) (.int .u8 0)).toArray 5)) := Kept.alloc _ _ _
              have hls : wr.heap.size ≤ u4.heap.size := hKK_u4.size
              have hsz_u5 : (u4.alloc (.cells (List.replicate (64 * 1) (.int .u8 0)).toArray 5)).heap.size = u4.heap.size + 1 := by simp
              generalize u4.alloc (.cells (List.replicate (64 * 1) (.int .u8 0)).toArray 5) = u5 at hBS_u5 hk_u5 hsz_u5 ⊢
              have hKK_u5 : Kept (fun k => k = s) wr u5 := hKK_u4.trans hk_u5 (fun _ _ h => h.elim)
              have hSc_u5 := hSc_u4.kept hk_u5 (fun _ _ h => h)
              have hB4_u5 := hk_u5.blk hB4_u4 (fun h => h)
              refine tkS 3 13 (v := .agg #[.int .i64 q1, .slice (some ⟨u4.heap.size, 0, none⟩) 64 64]) trivial rfl rfl (by kernel_rfl) (by kernel_rfl) (by kernel_rfl) (by kernel_rfl) (wanted_none rfl) (fun _ _ _ h => absurd h.1 (by simp)) (fun U hU => built40 (by simp [eval_put_ne, eval_put_eq, size_put, hts, e0]) (by simp [eval_put_ne, eval_put_eq, size_put, hts, e0])) ?_
              refine lastS (by kernel_rfl) rfl (wanted_none rfl) (run_store_agg (b := u1.heap.size) (off := 0) (L := [.int .i64 0, .slice none 0 0]) (M := [.int .i64 q1, .slice (some ⟨u4.heap.size, 0, none⟩) 64 64]) Try.agg39 (by simp [eval_put_ne, eval_put_eq, size_put, hts, e0]) (by simp [eval_put_ne, eval_put_eq, size_put, hts, e0]) rfl (by simp [Value.oneCell']) hB4_u5 (by simp)) (by kernel_rfl) ?_
              refine ⟨rfl, u1.heap.size, u4.heap.size, ?_, ?_, hB4_u5.setRow _, ?_, ?_, hl4, hls⟩
              · rw [hfr.out]; rfl
              · exact hSc_u5.kept (Kept.setRow (S := fun k => k = u1.heap.size) _ _ _ rfl) (fun k hk e => by omega)
              · exact (Kept.setRow (S := fun k => k = u1.heap.size) _ _ _ rfl).blk hBS_u5 (fun e => (hBS_u5.ne hB4_u5 (by decide)) e)
              · exact hKK_u5.trans (Kept.setRow (S := fun k => k = u1.heap.size) _ _ _ rfl) (fun k hk e => by omega)
        · refine stepVS 2 12 (v := .slice (some ⟨w0.heap.size, 0, none⟩) 64 64) rfl rfl (wanted_none rfl) (run_make_op 1 (by decide) Try.underlying22 Hi5.out Hz5.out (z := .int .u8 0) rfl Hs5.out 64 rfl rfl (by rw [Hb5.out]; decide) (by decide)) (fun _ => trivial) ?_
          have hBS_u6 : Blk (w0.alloc (.cells (List.replicate (64 * 1) (.int .u8 0)).toArray 5)) w0.heap.size (BV (List.replicate 64 0)) 5 := Blk.new w0 (List.replicate (64 * 1) (.int .u8 0)) 5
          have hk_u6 : Kept (fun _ => False) w0 (w0.alloc (.cells (List.replicate (64 * 1) (.int .u8 0)).toArray 5)) := Kept.alloc _ _ _
          have hls : wr.heap.size ≤ w0.heap.size := hKK_w0.size
          have hsz_u6 : (w0.alloc (.cells (List.replicate (64 * 1) (.int .u8 0)).toArray 5)).heap.size = w0.heap.size + 1 := by simp
          generalize w0.alloc (.cells (List.replicate (64 * 1) (.int .u8 0)).toArray 5) = u6 at hBS_u6 hk_u6 hsz_u6 ⊢
          have hKK_u6 : Kept (fun k => k = s) wr u6 := hKK_w0.trans hk_u6 (fun _ _ h => h.elim)
          have hSc_u6 := hSc_w0.kept hk_u6 (fun _ _ h => h)
          refine twoS 1 4 (by kernel_rfl) ?_ ?_
          · refine stepCS 1 11 rfl rfl (wanted_none rfl) (r_call2 Try.func76 (by kernel_rfl) rfl rfl (by simp [eval_put_ne, eval_put_eq, size_put, hts, e0]) rfl) (HC2.out u6 hSc_u6) ?_
            rintro e u7 ⟨rfl, hSc_u7, hk_u7⟩
            refine ⟨_, rfl, trivial, ?_⟩
            have hKK_u7 : Kept (fun k => k = s) wr u7 := hKK_u6.trans hk_u7 (fun _ _ h => h)
            have hBS_u7 := hk_u7.blk hBS_u6 (fun e => by omega)
            refine tkS 3 13 (v := .agg #[.int .i64 q1, .slice (some ⟨w0.heap.size, 0, none⟩) 64 64]) trivial rfl rfl (by kernel_rfl) (by kernel_rfl) (by kernel_rfl) (by kernel_rfl) (wanted_none rfl) (fun _ _ _ h => absurd h.1 (by simp)) (fun U hU => built40 (by simp [eval_put_ne, eval_put_eq, size_put, hts, e0]) (by simp [eval_put_ne, eval_put_eq, size_put, hts, e0])) ?_
            refine oneS 4 (by kernel_rfl) ?_
            · refine stepVS 4 4 (v := .pointer (some ⟨u7.heap.size, 0, none⟩)) rfl rfl (wanted_none rfl) (run_alloc_agg Hi4.out Hz4.out) (fun _ => trivial) ?_
              have hB4_u8 : Blk (u7.alloc (.cells (Value.agg #[.int .i64 0, .slice none 0 0]).cells 39)) u7.heap.size [.int .i64 0, .slice none 0 0] 39 := Blk.newA u7 _ 39
              have hk_u8 : Kept (fun _ => False) u7 (u7.alloc (.cells (Value.agg #[.int .i64 0, .slice none 0 0]).cells 39)) := Kept.alloc _ _ _
              have hl4 : wr.heap.size ≤ u7.heap.size := hKK_u7.size
              generalize u7.alloc (.cells (Value.agg #[.int .i64 0, .slice none 0 0]).cells 39) = u8 at hB4_u8 hk_u8 ⊢
              have hKK_u8 : Kept (fun k => k = s) wr u8 := hKK_u7.trans hk_u8 (fun _ _ h => h.elim)
              have hSc_u8 := hSc_u7.kept hk_u8 (fun _ _ h => h)
              have hBS_u8 := hk_u8.blk hBS_u7 (fun h => h)
              refine lastS (by kernel_rfl) rfl (wanted_none rfl) (run_store_agg (b := u7.heap.size) (off := 0) (L := [.int .i64 0, .slice none 0 0]) (M := [.int .i64 q1, .slice (some ⟨w0.heap.size, 0, none⟩) 64 64]) Try.agg39 (by simp [eval_put_ne, eval_put_eq, size_put, hts, e0]) (by simp [eval_put_ne, eval_put_eq, size_put, hts, e0]) rfl (by simp [Value.oneCell']) hB4_u8 (by simp)) (by kernel_rfl) ?_
              refine ⟨rfl, u7.heap.size, w0.heap.size, ?_, ?_, hB4_u8.setRow _, ?_, ?_, hl4, hls⟩
              · rw [hfr.out]; rfl
              · exact hSc_u8.kept (Kept.setRow (S := fun k => k = u7.heap.size) _ _ _ rfl) (fun k hk e => by omega)
              · exact (Kept.setRow (S := fun k => k = u7.heap.size) _ _ _ rfl).blk hBS_u8 (fun e => (hBS_u8.ne hB4_u8 (by decide)) e)
              · exact hKK_u8.trans (Kept.setRow (S := fun k => k = u7.heap.size) _ _ _ rfl) (fun k hk e => by omega)
          · refine stepVS 4 4 (v := .pointer (some ⟨u6.heap.size, 0, none⟩)) rfl rfl (wanted_none rfl) (run_alloc_agg Hi4.out Hz4.out) (fun _ => trivial) ?_
            have hB4_u9 : Blk (u6.alloc (.cells (Value.agg #[.int .i64 0, .slice none 0 0]).cells 39)) u6.heap.size [.int .i64 0, .slice none 0 0] 39 := Blk.newA u6 _ 39
            have hk_u9 : Kept (fun _ => False) u6 (u6.alloc (.cells (Value.agg #[.int .i64 0, .slice none 0 0]).cells 39)) := Kept.alloc _ _ _
            have hl4 : wr.heap.size ≤ u6.heap.size := hKK_u6.size
            generalize u6.alloc (.cells (Value.agg #[.int .i64 0, .slice none 0 0]).cells 39) = u9 at hB4_u9 hk_u9 ⊢
            have hKK_u9 : Kept (fun k => k = s) wr u9 := hKK_u6.trans hk_u9 (fun _ _ h => h.elim)
            have hSc_u9 := hSc_u6.kept hk_u9 (fun _ _ h => h)
            have hBS_u9 := hk_u9.blk hBS_u6 (fun h => h)
            refine oneS 1 (by kernel_rfl) ?_
            · refine stepCS 1 11 rfl rfl (wanted_none rfl) (r_call2 Try.func76 (by kernel_rfl) rfl rfl (by simp [eval_put_ne, eval_put_eq, size_put, hts, e0]) rfl) (HC2.out u9 hSc_u9) ?_
              rintro e u10 ⟨rfl, hSc_u10, hk_u10⟩
              refine ⟨_, rfl, trivial, ?_⟩
              have hKK_u10 : Kept (fun k => k = s) wr u10 := hKK_u9.trans hk_u10 (fun _ _ h => h)
              have hBS_u10 := hk_u10.blk hBS_u9 (fun e => by omega)
              have hB4_u10 := hk_u10.blk hB4_u9 (fun e => by omega)
              refine tkS 3 13 (v := .agg #[.int .i64 q1, .slice (some ⟨w0.heap.size, 0, none⟩) 64 64]) trivial rfl rfl (by kernel_rfl) (by kernel_rfl) (by kernel_rfl) (by kernel_rfl) (wanted_none rfl) (fun _ _ _ h => absurd h.1 (by simp)) (fun U hU => built40 (by simp [eval_put_ne, eval_put_eq, size_put, hts, e0]) (by simp [eval_put_ne, eval_put_eq, size_put, hts, e0])) ?_
              refine lastS (by kernel_rfl) rfl (wanted_none rfl) (run_store_agg (b := u6.heap.size) (off := 0) (L := [.int .i64 0, .slice none 0 0]) (M := [.int .i64 q1, .slice (some ⟨w0.heap.size, 0, none⟩) 64 64]) Try.agg39 (by simp [eval_put_ne, eval_put_eq, size_put, hts, e0]) (by simp [eval_put_ne, eval_put_eq, size_put, hts, e0]) rfl (by simp [Value.oneCell']) hB4_u10 (by simp)) (by kernel_rfl) ?_
              refine ⟨rfl, u6.heap.size, w0.heap.size, ?_, ?_, hB4_u10.setRow _, ?_, ?_, hl4, hls⟩
              · rw [hfr.out]; rfl
              · exact hSc_u10.kept (Kept.setRow (S := fun k => k = u6.heap.size) _ _ _ rfl) (fun k hk e => by omega)
              · exact (Kept.setRow (S := fun k => k = u6.heap.size) _ _ _ rfl).blk hBS_u10 (fun e => (hBS_u10.ne hB4_u10 (by decide)) e)
              · exact hKK_u10.trans (Kept.setRow (S := fun k => k = u6.heap.size) _ _ _ rfl) (fun k hk e => by omega)
        · refine stepVS 4 4 (v := .pointer (some ⟨w0.heap.size, 0, none⟩)) rfl rfl (wanted_none rfl) (run_alloc_agg Hi4.out Hz4.out) (fun _ => trivial) ?_
          have hB4_u11 : Blk (w0.alloc (.cells (Value.agg #[.int .i64 0, .slice none 0 0]).cells 39)) w0.heap.size [.int .i64 0, .slice none 0 0] 39 := Blk.newA w0 _ 39
          have hk_u11 : Kept (fun _ => False) w0 (w0.alloc (.cells (Value.agg #[.int .i64 0, .slice none 0 0]).cells 39)) := Kept.alloc _ _ _
          have hl4 : wr.heap.size ≤ w0.heap.size := hKK_w0.size
          generalize w0.alloc (.cells (Value.agg #[.int .i64 0, .slice none 0 0]).cells 39) = u11 at hB4_u11 hk_u11 ⊢
          have hKK_u11 : Kept (fun k => k = s) wr u11 := hKK_w0.trans hk_u11 (fun _ _ h => h.elim)
          have hSc_u11 := hSc_w0.kept hk_u11 (fun _ _ h => h)
          refine twoS 1 2 (by kernel_rfl) ?_ ?_
          · refine stepCS 1 11 rfl rfl (wanted_none rfl) (r_call2 Try.func76 (by kernel_rfl) rfl rfl (by simp [eval_put_ne, eval_put_eq, size_put, hts, e0]) rfl) (HC2.out u11 hSc_u11) ?_
            rintro e u12 ⟨rfl, hSc_u12, hk_u12⟩
            refine ⟨_, rfl, trivial, ?_⟩
            have hKK_u12 : Kept (fun k => k = s) wr u12 := hKK_u11.trans hk_u12 (fun _ _ h => h)
            have hB4_u12 := hk_u12.blk hB4_u11 (fun e => by omega)
            refine oneS 2 (by kernel_rfl) ?_
            · refine stepVS 2 12 (v := .slice (some ⟨u12.heap.size, 0, none⟩) 64 64) rfl rfl (wanted_none rfl) (run_make_op 1 (by decide) Try.underlying22 Hi5.out Hz5.out (z := .int .u8 0) rfl Hs5.out 64 rfl rfl (by rw [Hb5.out]; decide) (by decide)) (fun _ => trivial) ?_
              have hBS_u13 : Blk (u12.alloc (.cells (List.replicate (64 * 1) (.int .u8 0)).toArray 5)) u12.heap.size (BV (List.replicate 64 0)) 5 := Blk.new u12 (List.replicate (64 * 1) (.int .u8 0)) 5
              have hk_u13 : Kept (fun _ => False) u12 (u12.alloc (.cells (List.replicate (64 * 1) (.int .u8 0)).toArray 5)) := Kept.alloc _ _ _
              have hls : wr.heap.size ≤ u12.heap.size := hKK_u12.size
              have hsz_u13 : (u12.alloc (.cells (List.replicate (64 * 1) (.int .u8 0)).toArray 5)).heap.size = u12.heap.size + 1 := by simp
              generalize u12.alloc (.cells (List.replicate (64 * 1) (.int .u8 0)).toArray 5) = u13 at hBS_u13 hk_u13 hsz_u13 ⊢
              have hKK_u13 : Kept (fun k => k = s) wr u13 := hKK_u12.trans hk_u13 (fun _ _ h => h.elim)
              have hSc_u13 := hSc_u12.kept hk_u13 (fun _ _ h => h)
              have hB4_u13 := hk_u13.blk hB4_u12 (fun h => h)
              refine tkS 3 13 (v := .agg #[.int .i64 q1, .slice (some ⟨u12.heap.size, 0, none⟩) 64 64]) trivial rfl rfl (by kernel_rfl) (by kernel_rfl) (by kernel_rfl) (by kernel_rfl) (wanted_none rfl) (fun _ _ _ h => absurd h.1 (by simp)) (fun U hU => built40 (by simp [eval_put_ne, eval_put_eq, size_put, hts, e0]) (by simp [eval_put_ne, eval_put_eq, size_put, hts, e0])) ?_
              refine lastS (by kernel_rfl) rfl (wanted_none rfl) (run_store_agg (b := w0.heap.size) (off := 0) (L := [.int .i64 0, .slice none 0 0]) (M := [.int .i64 q1, .slice (some ⟨u12.heap.size, 0, none⟩) 64 64]) Try.agg39 (by simp [eval_put_ne, eval_put_eq, size_put, hts, e0]) (by simp [eval_put_ne, eval_put_eq, size_put, hts, e0]) rfl (by simp [Value.oneCell']) hB4_u13 (by simp)) (by kernel_rfl) ?_
              refine ⟨rfl, w0.heap.size, u12.heap.size, ?_, ?_, hB4_u13.setRow _, ?_, ?_, hl4, hls⟩
              · rw [hfr.out]; rfl
              · exact hSc_u13.kept (Kept.setRow (S := fun k => k = w0.heap.size) _ _ _ rfl) (fun k hk e => by omega)
              · exact (Kept.setRow (S := fun k => k = w0.heap.size) _ _ _ rfl).blk hBS_u13 (fun e => (hBS_u13.ne hB4_u13 (by decide)) e)
              · exact hKK_u13.trans (Kept.setRow (S := fun k => k = w0.heap.size) _ _ _ rfl) (fun k hk e => by omega)
          · refine stepVS 2 12 (v := .slice (some ⟨u11.heap.size, 0, none⟩) 64 64) rfl rfl (wanted_none rfl) (run_make_op 1 (by decide) Try.underlying22 Hi5.out Hz5.out (z := .int .u8 0) rfl Hs5.out 64 rfl rfl (by rw [Hb5.out]; decide) (by decide)) (fun _ => trivial) ?_
            have hBS_u14 : Blk (u11.alloc (.cells (List.replicate (64 * 1) (.int .u8 0)).toArray 5)) u11.heap.size (BV (List.replicate 64 0)) 5 := Blk.new u11 (List.replicate (64 * 1) (.int .u8 0)) 5
            have hk_u14 : Kept (fun _ => False) u11 (u11.alloc (.cells (List.replicate (64 * 1) (.int .u8 0)).toArray 5)) := Kept.alloc _ _ _
            have hls : wr.heap.size ≤ u11.heap.size := hKK_u11.size
            have hsz_u14 : (u11.alloc (.cells (List.replicate (64 * 1) (.int .u8 0)).toArray 5)).heap.size = u11.heap.size + 1 := by simp
            generalize u11.alloc (.cells (List.replicate (64 * 1) (.int .u8 0)).toArray 5) = u14 at hBS_u14 hk_u14 hsz_u14 ⊢
            have hKK_u14 : Kept (fun k => k = s) wr u14 := hKK_u11.trans hk_u14 (fun _ _ h => h.elim)
            have hSc_u14 := hSc_u11.kept hk_u14 (fun _ _ h => h)
            have hB4_u14 := hk_u14.blk hB4_u11 (fun h => h)
            refine oneS 1 (by kernel_rfl) ?_
            · refine stepCS 1 11 rfl rfl (wanted_none rfl) (r_call2 Try.func76 (by kernel_rfl) rfl rfl (by simp [eval_put_ne, eval_put_eq, size_put, hts, e0]) rfl) (HC2.out u14 hSc_u14) ?_
              rintro e u15 ⟨rfl, hSc_u15, hk_u15⟩
              refine ⟨_, rfl, trivial, ?_⟩
              have hKK_u15 : Kept (fun k => k = s) wr u15 := hKK_u14.trans hk_u15 (fun _ _ h => h)
              have hBS_u15 := hk_u15.blk hBS_u14 (fun e => by omega)
              have hB4_u15 := hk_u15.blk hB4_u14 (fun e => by omega)
              refine tkS 3 13 (v := .agg #[.int .i64 q1, .slice (some ⟨u11.heap.size, 0, none⟩) 64 64]) trivial rfl rfl (by kernel_rfl) (by kernel_rfl) (by kernel_rfl) (by kernel_rfl) (wanted_none rfl) (fun _ _ _ h => absurd h.1 (by simp)) (fun U hU => built40 (by simp [eval_put_ne, eval_put_eq, size_put, hts, e0]) (by simp [eval_put_ne, eval_put_eq, size_put, hts, e0])) ?_
              refine lastS (by kernel_rfl) rfl (wanted_none rfl) (run_store_agg (b := w0.heap.size) (off := 0) (L := [.int .i64 0, .slice none 0 0]) (M := [.int .i64 q1, .slice (some ⟨u11.heap.size, 0, none⟩) 64 64]) Try.agg39 (by simp [eval_put_ne, eval_put_eq, size_put, hts, e0]) (by simp [eval_put_ne, eval_put_eq, size_put, hts, e0]) rfl (by simp [Value.oneCell']) hB4_u15 (by simp)) (by kernel_rfl) ?_
              refine ⟨rfl, w0.heap.size, u11.heap.size, ?_, ?_, hB4_u15.setRow _, ?_, ?_, hl4, hls⟩
              · rw [hfr.out]; rfl
              · exact hSc_u15.kept (Kept.setRow (S := fun k => k = w0.heap.size) _ _ _ rfl) (fun k hk e => by omega)
              · exact (Kept.setRow (S := fun k => k = w0.heap.size) _ _ _ rfl).blk hBS_u15 (fun e => (hBS_u15.ne hB4_u15 (by decide)) e)
              · exact hKK_u15.trans (Kept.setRow (S := fun k => k = w0.heap.size) _ _ _ rfl) (fun k hk e => by omega)
      case rest =>
        rintro e a' w2 ⟨rfl, b4, bs, rfl, hsc, hb4, hbs, hk2, hl4, hls⟩
        rw [hfr.out]
        clear hfr e0 hts fr
        simp only [put_lit, put_none, List.set_cons_succ, List.set_cons_zero]
        have c1 : w2.cell? ⟨b4, 1, none⟩ = some (.slice (some ⟨bs, 0, none⟩) 64 64) := hb4.cell 1
        have hb4s : b4 ≠ s := by omega
        have hbss : bs ≠ s := by omega
        have hb45 : b4 ≠ bs := hb4.ne hbs (by decide)
        have HSc := hide hsc
        have HB4 := hide hb4
        have HBS := hide hbs
        have HK2 := hide hk2
        clear hsc hb4 hbs hk2 HS HC2
        obtain ⟨wn, hwn⟩ : ∃ wn, wn = wr.heap.size := ⟨_, rfl⟩
        rw [← hwn] at hl4 hls HOl hwr
        obtain ⟨wo, hwo⟩ : ∃ wo, wo = wr := ⟨_, rfl⟩
        rw [← hwo] at HO HK HK2 hwn
        have HWN := hide hwn
        clear hwn hwo
        go_wp2
        go_loopw [17] (fun jv wq => ∃ (j : Nat) (S2 : List Nat) (E2 : Int) (L : List Nat), jv = .int .i64 j ∧ j ≤ 64 ∧ Hid (Sc N wq s S2 E2) ∧ Hid (InB S1 E1 j S2 E2 L) ∧ Hid (Blk wq bs (BV L) 5) ∧ Hid (Blk wq b4 [.int .i64 q1, .slice (some ⟨bs, 0, none⟩) 64 64] 39) ∧ Hid (Kept (fun k => k = s) wo wq))
          (fun j _ => 64 - (intOf j).toNat)
        case atStart => exact ⟨0, S1, E1, List.replicate 64 0, rfl, Nat.zero_le _, HSc, hide (InB.start S1 E1), HBS, HB4, HK2⟩
        case round =>
          obtain ⟨j, S2, E2, L, rfl, hj, HS2, HI, HBL, HB4', HK3⟩ := hrel
          clear HSc HBS HB4 HK2 c1
          by_cases hj64 : j < 64
          · obtain ⟨p, hp⟩ := scan_nat S2 E2 1
            have HSTP := hide (HI.out.step hj64 HS2.out.lt hp)
            have HS2l : Hid (S2.length ≤ 90000000) := hide (by have := HI.out.2.2.1; have := HS1l.out; omega)
            have HC3 : Hid (∀ U, Sc N U s S2 E2 → Calls Try.prog 76 #[.pointer (some ⟨s, 0, none⟩), .int .i64 1] U fun e w' => e = .returned (.int .i64 (p : Nat)) ∧ Sc N w' s (scanNum S2 E2 1).2.1 (scanNum S2 E2 1).2.2 ∧ Kept (fun k => k = s) U w') := hide (fun U hU => by rw [← hp]; exact snum_sc N U s S2 E2 hU HS2l.out 1)
            clear hp HI
            have hLl : Hid (j < (BV L).length) := hide (by rw [BV_length]; have := HSTP.out.1; rw [List.length_set] at this; omega)
            generalize (scanNum S2 E2 1).2.1 = S3 at *
            generalize (scanNum S2 E2 1).2.2 = E3 at *
            go_wp2
            refine hold_frame (p := fun fr => Code.wp Try.prog _ _ fr _) ?_
            intro fr hfr
            have e0 : fr.eval (.tmp 0) = .pointer (some ⟨s, 0, none⟩) := by rw [hfr.out]; rfl
            have e4 : fr.eval (.tmp 4) = .pointer (some ⟨b4, 0, none⟩) := by rw [hfr.out]; rfl
            have e5 : fr.eval (.tmp 5) = .int .i64 j := by rw [hfr.out]; rfl
            have hts : fr.tmps.size = 37 := by rw [hfr.out]; rfl
            refine region_S 7 (fun U => U.cell? ⟨b4, 1, none⟩ = some (.slice (some ⟨bs, 0, none⟩) 64 64)) Try.mixed ?_
            intro w0 hkw hheap
            have hS0 := show w0.cell? ⟨b4, 1, none⟩ = some (.slice (some ⟨bs, 0, none⟩) 64 64) from (hkw.blk HB4'.out (fun h => h)).cell 1
            refine tkS 0 20 (v := .pointer (some ⟨b4, 1, none⟩)) hS0 rfl rfl (by kernel_rfl) (by kernel_rfl) (by kernel_rfl) (by kernel_rfl) (wanted_none rfl) (fun _ _ _ h => h) (fun U hU => r_fld40 (by simp [eval_put_ne, eval_put_eq, size_put, hts, e4])) ?_
            refine tkS 1 21 (v := .slice (some ⟨bs, 0, none⟩) 64 64) hS0 rfl rfl (by kernel_rfl) (by kernel_rfl) (by kernel_rfl) (by kernel_rfl) (wanted_none rfl) (fun _ _ _ h => h) (fun U hU => r_ld25 (b := b4) (o := 1) (by simp [eval_put_ne, eval_put_eq, size_put, hts]) hU) ?_
            refine tkS 2 22 (v := .int .i64 j) hS0 rfl rfl (by kernel_rfl) (by kernel_rfl) (by kernel_rfl) (by kernel_rfl) (wanted_none rfl) (fun _ _ _ h => h) (fun U hU => r_move (by simp [eval_put_ne, eval_put_eq, size_put, hts, e5])) ?_
            refine tkS 3 23 (v := .pointer (some ⟨s, 0, none⟩)) hS0 rfl rfl (by kernel_rfl) (by kernel_rfl) (by kernel_rfl) (by kernel_rfl) (wanted_none rfl) (fun _ _ _ h => h) (fun U hU => r_move (by simp [eval_put_ne, eval_put_eq, size_put, hts, e0])) ?_
            refine oneCS 4 24 (by kernel_rfl) rfl rfl (wanted_none rfl) (r_call2 Try.func76 (by kernel_rfl) rfl rfl (by simp [eval_put_ne, eval_put_eq, size_put, hts]) rfl) (HC3.out w0 (HS2.out.kept hkw (fun _ _ h => h))) ?_
            rintro e w5 ⟨rfl, hsc5, hk5⟩
            have hS5 : w5.cell? ⟨b4, 1, none⟩ = some (.slice (some ⟨bs, 0, none⟩) 64 64) := (hk5.blk (hkw.blk HB4'.out (fun h => h)) hb4s).cell 1
            refine ⟨_, rfl, hS5, ?_⟩
            refine tkS 5 25 (v := .int .u8 ((p % 256 : Nat) : Int)) hS5 rfl rfl (by kernel_rfl) (by kernel_rfl) (by kernel_rfl) (by kernel_rfl) (wanted_none rfl) (fun _ _ _ h => h) (fun U hU => r_conv35 (by simp [eval_put_ne, eval_put_eq, size_put, hts])) ?_
            refine tkS 6 26 (v := .pointer (some ⟨bs, 0 + j, none⟩)) hS5 rfl rfl (by kernel_rfl) (by kernel_rfl) (by kernel_rfl) (by kernel_rfl) (wanted_none rfl) (fun _ _ _ h => h) (fun U hU => r_ix25 j (b := bs) (off := 0) (len := 64) (cap := 64) (k := .i64) (by simp [eval_put_ne, eval_put_eq, size_put, hts]) (by simp [eval_put_ne, eval_put_eq, size_put, hts]) hj64) ?_
            have hbL := hk5.blk (hkw.blk HBL.out (fun h => h)) hbss
            refine lastS (by kernel_rfl) rfl (wanted_none rfl) (run_store_one (v := .int .u8 ((p % 256 : Nat) : Int)) (off := 0 + j) (L := BV L) Hi5.out Hs5.out (by simp [eval_put_ne, eval_put_eq, size_put, hts]) (by simp [eval_put_ne, eval_put_eq, size_put, hts]) rfl rfl hbL (by rw [Nat.zero_add]; exact hLl.out)) (by kernel_rfl) ?_
            have hset : (BV L).set (0 + j) (.int .u8 ((p % 256 : Nat) : Int)) = BV (L.set j (p % 256)) := by rw [Nat.zero_add]; simp [BV, List.map_set]
            rw [hset]
            have HBF := hide (hbL.setRow (BV (L.set j (p % 256))))
            have hks : Kept (fun k => k = bs) w5 (w5.setRow bs (BV (L.set j (p % 256))).toArray) := Kept.setRow (S := fun k => k = bs) _ _ _ rfl
            generalize w5.setRow bs (BV (L.set j (p % 256))).toArray = w6 at HBF hks ⊢
            have HB4F := hide (hks.blk (hk5.blk (hkw.blk HB4'.out (fun h => h)) hb4s) hb45)
            have HSF := hide (hsc5.kept hks (fun k hk e => by omega))
            have HKF : Hid (Kept (fun k => k = s) wo w6) := hide (((HK3.out.trans hkw (fun _ _ h => h.elim)).trans hk5 (fun _ _ h => h)).trans hks (fun k hk e => by have := HWN.out; omega))
            clear hset hks hk5 hsc5 hS5 hbL HS2 HBL HB4' HK3 hkw hheap HC3
            rw [hfr.out]
            clear hfr e0 e4 e5 hts hS0
            simp only [put_lit, put_none, List.set_cons_succ, List.set_cons_zero]
            go_wp2
            go_roundw
            case rel => exact ⟨j + 1, S3, E3, L.set j (p % 256), by simp, by omega, HSF, HSTP, HBF, HB4F, HKF⟩
            case measure => simp [intOf]; omega
          · obtain rfl : j = 64 := by omega
            go_wp2_with fail
            refine (err_sc N _ s S2 E2 HS2.out).mono ?_
            rintro e w7 ⟨rfl, rfl⟩
            by_cases hE2 : E2 = 0
            · subst hE2
              obtain ⟨f1, f2, f3, f4⟩ := HI.out.fin
              have HF := hide (HSTEP.out.2 f1 f2)
              have HL64 : Hid (L.length = 64 ∧ ∀ x ∈ L, x < 256) := hide ⟨HI.out.1, HI.out.2.1⟩
              rw [← f3, ← f4] at HF
              have hS2l : S2.length ≤ 80000000 := by have := HI.out.2.2.1; have := HS1l.out; omega
              clear HI HSTEP f1 f2 f3 f4
              have HO2 := hide (WsOwn.kept HO.out HK3.out (fun k hk e => HOl.out.1 k hk e) (fun x hx k hk e => (HOl.out.2 x hx k hk).2 e))
              go_wp2_with (first
                | (with_reducible refine aw_load (t := 39) (M := [.int .i64 q1, .slice (some ⟨bs, 0, none⟩) 64 64]) Try.agg39 rfl HB4'.out (by simp) (by simp) ?_)
                | (with_reducible refine stop_bs 35 ?_))
              refine hide ?_
              refine wpList_run rfl (run_buildSlice_one (M := [.int .i64 q1, .slice (some ⟨bs, 0, none⟩) 64 64]) Try.underlying35 Hi4.out Hz4.out Hs4.out (by simp) (by simp) (.inl rfl)) ?_
              have hbA := Blk.new wr [.int .i64 q1, .slice (some ⟨bs, 0, none⟩) 64 64] 39
              have hkA : Kept (fun _ => False) wr (wr.alloc (.cells [.int .i64 q1, .slice (some ⟨bs, 0, none⟩) 64 64].toArray 39)) := Kept.alloc _ _ _
              generalize wr.alloc (.cells [.int .i64 q1, .slice (some ⟨bs, 0, none⟩) 64 64].toArray 39) = wA at hbA hkA ⊢
              have hob : Own wA 0 (.slice (some ⟨bs, 0, none⟩) 64 64) L := by
                refine ⟨?_, HL64.out.2⟩
                rw [HL64.out.1]
                exact ownsRow_of (xs := BV L) (C := []) (by rw [List.append_nil]; exact hkA.blk HBL.out (fun h => h)) (by rw [BV_length, HL64.out.1]) (Nat.le_refl _) (by decide) (by simp)
              obtain ⟨v', wB, hr, hO3, hkB, hvB⟩ := (HO2.out.keptF hkA).snoc ⟨q1, ⟨some ⟨bs, 0, none⟩, 64, 64⟩, L⟩ hob hbA (by omega) 35
              obtain ⟨⟨va, vn, vc⟩, rfl⟩ := hO3.sl
              have hScB : Sc N wB s S2 0 := (HS2.out.kept hkA (fun _ _ h => h)).kept hkB (fun k hk e => by
                rcases ownsRow_blk (HO2.out.keptF hkA).1 with ⟨e1, _, _⟩ | ⟨g, cap, C, e1, hbg, _⟩
                · rw [e1] at e; simp [Value.ownBlock] at e
                · rw [e1] at e
                  simp [Value.ownBlock] at e
                  subst e
                  obtain ⟨_, _, vv, hsa, hin⟩ := HS2.out.kept hkA (fun _ _ h => h)
                  have := HNB.out.1 g (by rw [show (Sl.mk ta tn tc).v = Value.slice (some ⟨g, 0, none⟩) _ cap from e1]; rfl)
                  omega)
              have HKF : Hid (Kept (fun k => k = s) w wB) := hide (((HK.out.trans HK3.out (fun _ _ h => h)).trans hkA (fun _ _ h => h.elim)).trans hkB (fun k hk e => by have := HNB.out.1 k e; omega))
              have HNF : Hid (∀ k, (Value.slice va vn vc).ownBlock = some k → w.heap.size ≤ k) := hide (fun k hk => by
                rcases hvB with h | h
                · exact HNB.out.1 k (h ▸ hk)
                · rw [h] at hk
                  simp at hk
                  have := HK.out.size
                  have := HK3.out.size
                  have := hkA.size
                  omega)
              have HO4 := hide hO3
              have HSB := hide hScB
              have HR := hide hr
              clear hbA hkA hob hr hO3 hkB hvB hScB HO2 HBL HB4' HK3 HS2
              simp only [put_lit, put_none, List.set_cons_succ, List.set_cons_zero]
              go_wp2_with (with_reducible refine stop_append2 35 35 ?_)
              refine hide ?_
              refine wpList_run rfl (r_app rfl rfl HR.out) ?_
              simp only [put_lit, put_none, List.set_cons_succ, List.set_cons_zero]
              go_wp2
              go_roundw
              case rel => exact ⟨⟨va, vn, vc⟩, i + 1, ws ++ [⟨q1, ⟨some ⟨bs, 0, none⟩, 64, 64⟩, L⟩], S2, 0, rfl, by simp, by omega, by simp [hwi], hS2l, HO4, HSB, hide (by rw [HQ.out, HF.out]; simp [Wv.wr]), hide (fun _ => rfl), HKF, hide ⟨HNF.out, fun x hx k hk => by
                rcases List.mem_append.1 hx with h | h
                · exact HNB.out.2 x h k hk
                · simp only [List.mem_singleton] at h
                  subst h
                  simp [Sl.v, Value.ownBlock] at hk
                  have := HK.out.size
                  have := HWN.out
                  omega⟩⟩
              case measure => simp [intOf]; omega
            · have HBAD := hide (HSTEP.out.1 (HI.out.2.2.2.2 hE2))
              clear HI HSTEP
              go_wp2
              go_ret
              refine ⟨⟨none, 0, 0⟩, [], S2, E2, rfl, HS2.out, WsOwn.nil _, by simp, HK.out.trans HK3.out (fun _ _ h => h), HG.out _ _ _ ⟨⟨fun h => absurd h hE2, fun h => ?_⟩, fun h => absurd h hE2⟩, NewOf.nil _⟩
              rw [HQ.out] at h
              exact absurd h HBAD.out
    · obtain rfl : i = nn := by omega
      go_wp2
      go_ret
      refine ⟨⟨ta, tn, tc⟩, ws, S, Ec, rfl, HS.out, HO.out, by omega, HK.out, HG.out _ _ _ ?_, HNB.out⟩
      have h := HQ.out
      rw [Nat.sub_self] at h
      simp only [scanWs, List.append_nil] at h
      rw [h]
      exact ⟨Iff.rfl, fun e => by rw [e]⟩
end Go.Proofs.Ytbbhchmdggfncaa


/-
  isPlace, areRight, Right, of package record.
-/
namespace Go.Proofs.Ytbbhchmdggfncaa
open Go.RowKit Go.Shelf
set_option linter.unusedSimpArgs false
set_option linter.unusedVariables false
set_option maxRecDepth 100000

def tnB (t n : Int) : Bool := decide (1 ≤ t ∧ t ≤ 2147483647 ∧ 0 ≤ n ∧ n ≤ 1099511627776)
set_option maxHeartbeats 1000000 in
theorem place_at (w : World) (t n : Int) : Calls Try.prog 42 #[.int .i64 t, .int .i64 n] w fun e w' => e = .returned (.bool (tnB t n)) ∧ w = w' := by
  have H : Hid (tnB t n = tnB t n) := hide rfl
  generalize hb : tnB t n = b
  have HB : Hid (tnB t n = b) := hide hb
  clear hb H
  by_cases h1 : 1 ≤ t
  · by_cases h2 : t ≤ 2147483647
    · by_cases h3 : 0 ≤ n
      · by_cases h4 : n ≤ 1099511627776
        · obtain rfl : b = true := by rw [← HB.out]; unfold tnB; simp; omega
          clear HB
          have h1' : ¬ t < 1 := by omega
          have h2' : ¬ 2147483647 < t := by omega
          have h3' : ¬ n < 0 := by omega
          have h4' : ¬ 1099511627776 < n := by omega
          go_enter Try.func42, Try.ntmps42
          go_wp2
          go_ret
          simp
        · obtain rfl : b = false := by rw [← HB.out]; unfold tnB; simp; omega
          clear HB
          have h1' : ¬ t < 1 := by omega
          have h2' : ¬ 2147483647 < t := by omega
          have h3' : ¬ n < 0 := by omega
          have h4' : 1099511627776 < n := by omega
          go_enter Try.func42, Try.ntmps42
          go_wp2
          go_ret
          simp
      · obtain rfl : b = false := by rw [← HB.out]; unfold tnB; simp; omega
        clear HB
        have h1' : ¬ t < 1 := by omega
        have h2' : ¬ 2147483647 < t := by omega
        have h3' : n < 0 := by omega
        go_enter Try.func42, Try.ntmps42
        go_wp2
        go_ret
        simp
    · obtain rfl : b = false := by rw [← HB.out]; unfold tnB; simp; omega
      clear HB
      have h1' : ¬ t < 1 := by omega
      have h2' : 2147483647 < t := by omega
      go_enter Try.func42, Try.ntmps42
      go_wp2
      go_ret
      simp
  · obtain rfl : b = false := by rw [← HB.out]; unfold tnB; simp; omega
    clear HB
    have h1' : t < 1 := by omega
    go_enter Try.func42, Try.ntmps42
    go_wp2
    go_ret
    simp

theorem good_step {l : List Wv} {k : Nat} {lo : Int} (hk : k < l.length) : goodFrom lo ((l.drop k).map Wv.wr) = (decide (lo < l[k].blk ∧ 0 ≤ l[k].blk ∧ l[k].blk < 64 ∧ l[k].B.length = 64) && goodFrom l[k].blk ((l.drop (k + 1)).map Wv.wr)) := by
  rw [List.drop_eq_getElem_cons hk, List.map_cons]
  rfl

set_option maxRecDepth 100000 in
set_option maxHeartbeats 4000000 in
theorem areRight_at (w : World) (v : Value) (l : List Wv) (h : WsAt w v l) : Calls Try.prog 43 #[v] w fun e w' => e = .returned (.bool (goodFrom (-1) (l.map Wv.wr))) ∧ Kept (fun _ => False) w w' := by
  obtain ⟨ao, cap, rfl⟩ := h.slice
  have hmax := h.2.2
  obtain ⟨i0, hi0, hz0, hs0, hb0⟩ := info_parts Try.info39
  have Hi0 := hide hi0
  have Hz0 := hide hz0
  have HW := hide h
  clear h hi0 hz0 hs0 hb0
  go_enter Try.func43, Try.ntmps43
  go_wp2
  go_loopw [3, 8] (fun nx i wr => ∃ (q : Int) (k : Nat), nx = .int .i64 q ∧ i = .int .i64 k ∧ 0 ≤ q ∧ q ≤ 64 ∧ k ≤ l.length ∧ Hid (goodFrom (-1) (l.map Wv.wr) = goodFrom (q - 1) ((l.drop k).map Wv.wr)) ∧ Kept (fun _ => False) w wr)
    (fun _ i _ => l.length - (intOf i).toNat)
  case atStart => exact ⟨0, 0, rfl, rfl, by omega, by omega, Nat.zero_le _, hide (by simp), Kept.refl _ _⟩
  case round =>
    obtain ⟨q, k, rfl, rfl, hq0, hq1, hk, HG, hkr⟩ := hrel
    by_cases hlt : k < l.length
    · obtain ⟨g, off, rfl, c0, c1, hsrc, hn⟩ := (HW.out.kept hkr).get hlt
      have HS := hide (good_step (lo := q - 1) hlt)
      have HN := hide hn
      obtain ⟨x, hx⟩ : ∃ x, x = l[k] := ⟨_, rfl⟩
      rw [← hx] at c0 c1 HS HN
      obtain ⟨bk, ⟨xa, xn, xc⟩, xB⟩ := x
      simp only at c0 c1 HS HN
      clear hsrc hn hx
      by_cases hb1 : bk < q
      · go_wp2_with (first
          | ((with_reducible refine aw_alloc (t := 39) Hi0.out Hz0.out ?_); intro w2 hw2 hk2 hz2; have Hz2 := hide hz2; clear hz2 c0 c1)
          | ((with_reducible refine aw_store (M := [.int .i64 bk, .slice xa xn xc]) Try.agg39 rfl rfl rfl (by simp [Value.oneCell']) hw2 (by simp [Value.cells]) ?_); intro w3 hw3 hk3 hz3; rw [put_whole _ _ (by simp [Value.cells])] at hw3; have d0 : w3.cell? ⟨wr.heap.size, 0, none⟩ = some (.int .i64 bk) := hw3.cell 0; have d1 : w3.cell? ⟨wr.heap.size, 1, none⟩ = some (.slice xa xn xc) := hw3.cell 1; have HK3 := hide (hk2.trans hk3 (fun i hi h => by omega)); clear hz3 hw2 hw3 hk2 hk3))
        go_ret
        refine ⟨?_, hkr.trans HK3.out (fun _ _ h => h)⟩
        rw [HG.out, HS.out]
        simp
        omega
      · by_cases hb2 : 64 ≤ bk
        · have hb2' : ¬ bk < 64 := by omega
          go_wp2_with (first
            | ((with_reducible refine aw_alloc (t := 39) Hi0.out Hz0.out ?_); intro w2 hw2 hk2 hz2; have Hz2 := hide hz2; clear hz2 c0 c1)
            | ((with_reducible refine aw_store (M := [.int .i64 bk, .slice xa xn xc]) Try.agg39 rfl rfl rfl (by simp [Value.oneCell']) hw2 (by simp [Value.cells]) ?_); intro w3 hw3 hk3 hz3; rw [put_whole _ _ (by simp [Value.cells])] at hw3; have d0 : w3.cell? ⟨wr.heap.size, 0, none⟩ = some (.int .i64 bk) := hw3.cell 0; have d1 : w3.cell? ⟨wr.heap.size, 1, none⟩ = some (.slice xa xn xc) := hw3.cell 1; have HK3 := hide (hk2.trans hk3 (fun i hi h => by omega)); clear hz3 hw2 hw3 hk2 hk3))
          go_ret
          refine ⟨?_, hkr.trans HK3.out (fun _ _ h => h)⟩
          rw [HG.out, HS.out]
          simp
          omega
        · have hb2' : bk < 64 := by omega
          by_cases hb3 : xn = 64
          · subst hb3
            go_wp2_with (first
              | ((with_reducible refine aw_alloc (t := 39) Hi0.out Hz0.out ?_); intro w2 hw2 hk2 hz2; have Hz2 := hide hz2; clear hz2 c0 c1)
              | ((with_reducible refine aw_store (M := [.int .i64 bk, .slice xa 64 xc]) Try.agg39 rfl rfl rfl (by simp [Value.oneCell']) hw2 (by simp [Value.cells]) ?_); intro w3 hw3 hk3 hz3; rw [put_whole _ _ (by simp [Value.cells])] at hw3; have d0 : w3.cell? ⟨wr.heap.size, 0, none⟩ = some (.int .i64 bk) := hw3.cell 0; have d1 : w3.cell? ⟨wr.heap.size, 1, none⟩ = some (.slice xa 64 xc) := hw3.cell 1; have HK3 := hide (hk2.trans hk3 (fun i hi h => by omega)); clear hz3 hw2 hw3 hk2 hk3))
            go_roundw
            case rel => exact ⟨bk + 1, k + 1, by simp [IntKind.wrap_i64]; try omega, by simp, by omega, by omega, by omega, hide (by
              rw [HG.out, HS.out]
              have e : decide (q - 1 < bk ∧ 0 ≤ bk ∧ bk < 64 ∧ xB.length = 64) = true := by simp; have := HN.out; omega
              rw [e, Bool.true_and]
              congr 1
              omega), hkr.trans HK3.out (fun _ _ h => h)⟩
            case measure => simp [intOf]; omega
          · have hb3' : ¬ ((xn : Int) = 64) := by omega
            go_wp2_with (first
              | ((with_reducible refine aw_alloc (t := 39) Hi0.out Hz0.out ?_); intro w2 hw2 hk2 hz2; have Hz2 := hide hz2; clear hz2 c0 c1)
              | ((with_reducible refine aw_store (M := [.int .i64 bk, .slice xa xn xc]) Try.agg39 rfl rfl rfl (by simp [Value.oneCell']) hw2 (by simp [Value.cells]) ?_); intro w3 hw3 hk3 hz3; rw [put_whole _ _ (by simp [Value.cells])] at hw3; have d0 : w3.cell? ⟨wr.heap.size, 0, none⟩ = some (.int .i64 bk) := hw3.cell 0; have d1 : w3.cell? ⟨wr.heap.size, 1, none⟩ = some (.slice xa xn xc) := hw3.cell 1; have HK3 := hide (hk2.trans hk3 (fun i hi h => by omega)); clear hz3 hw2 hw3 hk2 hk3))
            go_ret
            refine ⟨?_, hkr.trans HK3.out (fun _ _ h => h)⟩
            rw [HG.out, HS.out]
            have e : ¬ xB.length = 64 := by have := HN.out; omega
            simp [e]
    · obtain rfl : l.length = k := by omega
      go_wp2
      go_ret
      refine ⟨?_, hkr⟩
      rw [HG.out]
      simp [goodFrom]
end Go.Proofs.Ytbbhchmdggfncaa


/-
  Right, of package record.
-/
namespace Go.Proofs.Ytbbhchmdggfncaa
open Go.RowKit Go.Shelf
set_option linter.unusedSimpArgs false
set_option linter.unusedVariables false
set_option maxRecDepth 100000

set_option maxRecDepth 100000 in
set_option maxHeartbeats 4000000 in
theorem rcrightP_at (w : World) (kd tl nm : Int) (s : Sl) (l : List Wv) (h : WsAt w s.v l) (b : Bool) (hb : rightR ⟨kd, tl, nm, l.map Wv.wr⟩ = b) :
    Calls Try.prog 25 #[rAgg kd tl nm s] w fun e w' => e = .returned (.bool b) ∧ Kept (fun _ => False) w w' := by
  obtain ⟨xa, xn, xc⟩ := s
  obtain rfl : xn = l.length := WsAt.len h
  have HB := hide hb
  have HW := hide h
  have hmax := h.2.2
  clear hb h
  obtain ⟨tb, htb⟩ : ∃ tb, tb = tnB tl nm := ⟨_, rfl⟩
  have HT : Hid (tb = tnB tl nm) := hide htb
  have HP : Hid (∀ w, Calls Try.prog 42 #[.int .i64 tl, .int .i64 nm] w fun e w' => e = .returned (.bool tb) ∧ w = w') := hide (fun w => by rw [HT.out]; exact place_at w tl nm)
  clear htb
  by_cases h2 : kd = 2
  · subst h2
    have hb : b = decide (tl = 0 ∧ nm = 0 ∧ l.length = 0) := by rw [← HB.out]; simp [rightR]
    clear HP HT HB
    have Hb := hide hb
    clear hb
    by_cases g1 : tl = 0
    · by_cases g2 : nm = 0
      · by_cases g3 : l.length = 0
        · have g3' : ((l.length : Nat) : Int) = 0 := by omega
          obtain rfl : b = true := by rw [Hb.out]; simp [g1, g2, g3]
          subst g1 g2
          have HG := hide g3
          clear g3 Hb
          go_enter Try.func25, Try.ntmps25
          go_wp2_with (first
            | ((with_reducible refine aw_box (t := 37) (v := rAgg 2 0 0 ⟨xa, l.length, xc⟩) rfl ?_); intro w1 hb1 hk1 hz1; have c0 : w1.cell? ⟨w.heap.size, 0, none⟩ = some (.int .i64 2) := hb1.cell 0; have c1 : w1.cell? ⟨w.heap.size, 1, none⟩ = some (.int .i64 0) := hb1.cell 1; have c2 : w1.cell? ⟨w.heap.size, 2, none⟩ = some (.int .i64 0) := hb1.cell 2; have c3 : w1.cell? ⟨w.heap.size, 3, none⟩ = some (.slice xa l.length xc) := hb1.cell 3; clear hz1 hb1)
            | fail)
          go_ret
          exact ⟨by simp [HG.out], hk1⟩
        · have g3' : ¬ ((l.length : Nat) : Int) = 0 := by omega
          obtain rfl : b = false := by rw [Hb.out]; simp [g3]
          subst g1 g2
          have HG := hide g3
          clear g3 Hb
          go_enter Try.func25, Try.ntmps25
          go_wp2_with (first
            | ((with_reducible refine aw_box (t := 37) (v := rAgg 2 0 0 ⟨xa, l.length, xc⟩) rfl ?_); intro w1 hb1 hk1 hz1; have c0 : w1.cell? ⟨w.heap.size, 0, none⟩ = some (.int .i64 2) := hb1.cell 0; have c1 : w1.cell? ⟨w.heap.size, 1, none⟩ = some (.int .i64 0) := hb1.cell 1; have c2 : w1.cell? ⟨w.heap.size, 2, none⟩ = some (.int .i64 0) := hb1.cell 2; have c3 : w1.cell? ⟨w.heap.size, 3, none⟩ = some (.slice xa l.length xc) := hb1.cell 3; clear hz1 hb1)
            | fail)
          go_ret
          have g3 := HG.out
          exact ⟨by simp; intro e; exact g3 (by simp [e]), hk1⟩
      · obtain rfl : b = false := by rw [Hb.out]; simp [g2]
        subst g1
        clear Hb
        go_enter Try.func25, Try.ntmps25
        go_wp2_with (first
          | ((with_reducible refine aw_box (t := 37) (v := rAgg 2 0 nm ⟨xa, l.length, xc⟩) rfl ?_); intro w1 hb1 hk1 hz1; have c0 : w1.cell? ⟨w.heap.size, 0, none⟩ = some (.int .i64 2) := hb1.cell 0; have c1 : w1.cell? ⟨w.heap.size, 1, none⟩ = some (.int .i64 0) := hb1.cell 1; have c2 : w1.cell? ⟨w.heap.size, 2, none⟩ = some (.int .i64 nm) := hb1.cell 2; have c3 : w1.cell? ⟨w.heap.size, 3, none⟩ = some (.slice xa l.length xc) := hb1.cell 3; clear hz1 hb1)
          | fail)
        go_ret
        exact ⟨by simp, hk1⟩
    · obtain rfl : b = false := by rw [Hb.out]; simp [g1]
      clear Hb
      go_enter Try.func25, Try.ntmps25
      go_wp2_with (first
        | ((with_reducible refine aw_box (t := 37) (v := rAgg 2 tl nm ⟨xa, l.length, xc⟩) rfl ?_); intro w1 hb1 hk1 hz1; have c0 : w1.cell? ⟨w.heap.size, 0, none⟩ = some (.int .i64 2) := hb1.cell 0; have c1 : w1.cell? ⟨w.heap.size, 1, none⟩ = some (.int .i64 tl) := hb1.cell 1; have c2 : w1.cell? ⟨w.heap.size, 2, none⟩ = some (.int .i64 nm) := hb1.cell 2; have c3 : w1.cell? ⟨w.heap.size, 3, none⟩ = some (.slice xa l.length xc) := hb1.cell 3; clear hz1 hb1)
        | fail)
      go_ret
      exact ⟨by simp, hk1⟩
  · by_cases h1 : kd = 1
    · subst h1
      have hb : b = (tb && decide (l.length = 0)) := by rw [← HB.out, HT.out]; simp [rightR, tnOk, tnB]
      have Hb := hide hb
      clear hb HB HT
      cases tb with
      | false =>
        obtain rfl : b = false := by rw [Hb.out]; rfl
        clear Hb
        go_enter Try.func25, Try.ntmps25
        go_wp2_with (first
          | ((with_reducible refine aw_box (t := 37) (v := rAgg 1 tl nm ⟨xa, l.length, xc⟩) rfl ?_); intro w1 hb1 hk1 hz1; have c0 : w1.cell? ⟨w.heap.size, 0, none⟩ = some (.int .i64 1) := hb1.cell 0; have c1 : w1.cell? ⟨w.heap.size, 1, none⟩ = some (.int .i64 tl) := hb1.cell 1; have c2 : w1.cell? ⟨w.heap.size, 2, none⟩ = some (.int .i64 nm) := hb1.cell 2; have c3 : w1.cell? ⟨w.heap.size, 3, none⟩ = some (.slice xa l.length xc) := hb1.cell 3; clear hz1 hb1)
          | fail)
        refine (HP.out _).mono ?_
        rintro e w2 ⟨rfl, rfl⟩
        go_wp2
        go_ret
        exact ⟨by simp, hk1⟩
      | true =>
        by_cases g3 : l.length = 0
        · obtain rfl : b = true := by rw [Hb.out]; simp [g3]
          have g3' : ((l.length : Nat) : Int) = 0 := by omega
          have HG := hide g3
          clear Hb g3
          go_enter Try.func25, Try.ntmps25
          go_wp2_with (first
            | ((with_reducible refine aw_box (t := 37) (v := rAgg 1 tl nm ⟨xa, l.length, xc⟩) rfl ?_); intro w1 hb1 hk1 hz1; have c0 : w1.cell? ⟨w.heap.size, 0, none⟩ = some (.int .i64 1) := hb1.cell 0; have c1 : w1.cell? ⟨w.heap.size, 1, none⟩ = some (.int .i64 tl) := hb1.cell 1; have c2 : w1.cell? ⟨w.heap.size, 2, none⟩ = some (.int .i64 nm) := hb1.cell 2; have c3 : w1.cell? ⟨w.heap.size, 3, none⟩ = some (.slice xa l.length xc) := hb1.cell 3; clear hz1 hb1)
            | fail)
          refine (HP.out _).mono ?_
          rintro e w2 ⟨rfl, rfl⟩
          go_wp2
          go_ret
          exact ⟨by simp [HG.out], hk1⟩
        · obtain rfl : b = false := by rw [Hb.out]; simp [g3]
          have g3' : ¬ ((l.length : Nat) : Int) = 0 := by omega
          have HG := hide g3
          clear Hb g3
          go_enter Try.func25, Try.ntmps25
          go_wp2_with (first
            | ((with_reducible refine aw_box (t := 37) (v := rAgg 1 tl nm ⟨xa, l.length, xc⟩) rfl ?_); intro w1 hb1 hk1 hz1; have c0 : w1.cell? ⟨w.heap.size, 0, none⟩ = some (.int .i64 1) := hb1.cell 0; have c1 : w1.cell? ⟨w.heap.size, 1, none⟩ = some (.int .i64 tl) := hb1.cell 1; have c2 : w1.cell? ⟨w.heap.size, 2, none⟩ = some (.int .i64 nm) := hb1.cell 2; have c3 : w1.cell? ⟨w.heap.size, 3, none⟩ = some (.slice xa l.length xc) := hb1.cell 3; clear hz1 hb1)
            | fail)
          refine (HP.out _).mono ?_
          rintro e w2 ⟨rfl, rfl⟩
          go_wp2
          go_ret
          have g3 := HG.out
          exact ⟨by simp; intro e; exact g3 (by simp [e]), hk1⟩
    · by_cases h3 : kd = 3
      · subst h3
        have hb : b = (tb && decide (0 < nm) && goodFrom (-1) (l.map Wv.wr)) := by rw [← HB.out, HT.out]; simp [rightR, tnOk, tnB]
        have Hb := hide hb
        clear hb HB
        cases htb : tb with
        | false =>
          subst htb
          obtain rfl : b = false := by rw [Hb.out]; rfl
          clear Hb HT
          go_enter Try.func25, Try.ntmps25
          go_wp2_with (first
            | ((with_reducible refine aw_box (t := 37) (v := rAgg 3 tl nm ⟨xa, l.length, xc⟩) rfl ?_); intro w1 hb1 hk1 hz1; have c0 : w1.cell? ⟨w.heap.size, 0, none⟩ = some (.int .i64 3) := hb1.cell 0; have c1 : w1.cell? ⟨w.heap.size, 1, none⟩ = some (.int .i64 tl) := hb1.cell 1; have c2 : w1.cell? ⟨w.heap.size, 2, none⟩ = some (.int .i64 nm) := hb1.cell 2; have c3 : w1.cell? ⟨w.heap.size, 3, none⟩ = some (.slice xa l.length xc) := hb1.cell 3; clear hz1 hb1)
            | fail)
          refine (HP.out _).mono ?_
          rintro e w2 ⟨rfl, rfl⟩
          go_wp2
          go_ret
          exact ⟨by simp, hk1⟩
        | true =>
          subst htb
          have hn0 : 0 ≤ nm := by have := HT.out.symm; unfold tnB at this; simp at this; omega
          clear HT
          by_cases g0 : nm = 0
          · subst g0
            obtain rfl : b = false := by rw [Hb.out]; simp
            clear Hb
            go_enter Try.func25, Try.ntmps25
            go_wp2_with (first
              | ((with_reducible refine aw_box (t := 37) (v := rAgg 3 tl 0 ⟨xa, l.length, xc⟩) rfl ?_); intro w1 hb1 hk1 hz1; have c0 : w1.cell? ⟨w.heap.size, 0, none⟩ = some (.int .i64 3) := hb1.cell 0; have c1 : w1.cell? ⟨w.heap.size, 1, none⟩ = some (.int .i64 tl) := hb1.cell 1; have c2 : w1.cell? ⟨w.heap.size, 2, none⟩ = some (.int .i64 0) := hb1.cell 2; have c3 : w1.cell? ⟨w.heap.size, 3, none⟩ = some (.slice xa l.length xc) := hb1.cell 3; clear hz1 hb1)
              | fail)
            refine (HP.out _).mono ?_
            rintro e w2 ⟨rfl, rfl⟩
            go_wp2
            go_ret
            exact ⟨by simp, hk1⟩
          · obtain rfl : b = goodFrom (-1) (l.map Wv.wr) := by
              rw [Hb.out]
              have : 0 < nm := by omega
              simp [this]
            clear Hb
            go_enter Try.func25, Try.ntmps25
            go_wp2_with (first
              | ((with_reducible refine aw_box (t := 37) (v := rAgg 3 tl nm ⟨xa, l.length, xc⟩) rfl ?_); intro w1 hb1 hk1 hz1; have c0 : w1.cell? ⟨w.heap.size, 0, none⟩ = some (.int .i64 3) := hb1.cell 0; have c1 : w1.cell? ⟨w.heap.size, 1, none⟩ = some (.int .i64 tl) := hb1.cell 1; have c2 : w1.cell? ⟨w.heap.size, 2, none⟩ = some (.int .i64 nm) := hb1.cell 2; have c3 : w1.cell? ⟨w.heap.size, 3, none⟩ = some (.slice xa l.length xc) := hb1.cell 3; clear hz1 hb1)
              | fail)
            refine (HP.out _).mono ?_
            rintro e w2 ⟨rfl, rfl⟩
            go_wp2_with fail
            refine (areRight_at _ _ l (HW.out.kept hk1)).mono ?_
            rintro e w2 ⟨rfl, hk2⟩
            go_wp2
            go_ret
            exact ⟨by simp [g0], hk1.trans hk2 (fun _ _ h => h)⟩
      · obtain rfl : b = false := by rw [← HB.out]; simp [rightR, h1, h2, h3]
        clear HB HT HP
        go_enter Try.func25, Try.ntmps25
        go_wp2_with (first
          | ((with_reducible refine aw_box (t := 37) (v := rAgg kd tl nm ⟨xa, l.length, xc⟩) rfl ?_); intro w1 hb1 hk1 hz1; have c0 : w1.cell? ⟨w.heap.size, 0, none⟩ = some (.int .i64 kd) := hb1.cell 0; clear hz1 hb1)
          | fail)
        go_ret
        exact ⟨by simp, hk1⟩
theorem rcright_at (w : World) (x : Rv) (h : RcAt w x) : Calls Try.prog 25 #[x.agg] w fun e w' => e = .returned (.bool (rightR x.rc)) ∧ Kept (fun _ => False) w w' :=
  rcrightP_at w x.kd x.tl x.nm x.s x.ws h _ rfl
end Go.Proofs.Ytbbhchmdggfncaa
