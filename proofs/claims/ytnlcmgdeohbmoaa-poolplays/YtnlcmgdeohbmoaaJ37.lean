/-
  The document's pool: Get, Image, Drop.
-/
import Derived.Test.YtnlcmgdeohbmoaaJ36
namespace Go.Proofs.Ytnlcmgdeohbmoaa
open Go.RowKit Go.Shelf
set_option linter.unusedSimpArgs false
set_option linter.unusedVariables false
set_option maxRecDepth 100000

def rgE (s : D.DS) (H : List (List Nat)) (k : Int) : Int := if 0 ≤ k ∧ k < H.length then (if H.getD k.toNat [] = [] then rE s else 0) else 41
def rgV (s : D.DS) (fr : Nat) (H : List (List Nat)) (k : Int) : List Nat := if 0 ≤ k ∧ k < H.length then (if H.getD k.toNat [] = [] then rV s (fr + k.toNat) else H.getD k.toNat []) else []
theorem strN_ne {B : List Nat} (h : B ≠ []) : strN B ≠ ⟨#[]⟩ := by
  intro e
  have := congrArg ByteArray.size e
  rw [strN_size] at this
  have h0 : (ByteArray.mk #[]).size = 0 := rfl
  rw [h0] at this
  exact h (List.eq_nil_of_length_eq_zero this)
set_option maxHeartbeats 2000000 in
theorem rpget_at (w : World) (N nd : Nat) (s : D.DS) (rv : Value) (fr n : Nat) (hv dv : Value) (H : List (List Nat)) (T : List Bool) (h : RfP w N nd s rv fr n hv dv H T) (k : Int) :
    Calls Try.prog 18 #[refP s rv fr hv dv, .int .i64 k] w fun e w' => e = .returned (.tuple #[.string (strN (rgV s fr H k)), .int .i64 (rgE s H k)]) ∧ Kept (fun _ => False) w w' := by
  obtain ⟨hHl, hTl⟩ := h.lens
  obtain ⟨ro, rc, rfl⟩ := h.wt.slice
  obtain ⟨hg, hcap, rfl, hcell⟩ := h.hh.cell
  obtain ⟨dg, dcap, rfl, dcell⟩ := h.hd.cell
  have HC := hide hcell
  have HH := hide h
  have HHl := hide hHl
  have hn := h.n64
  have hfit := h.fit
  have hn2 := h.dok.n2
  clear h hcell dcell hTl
  obtain ⟨v, hv⟩ : ∃ v, v = refP s (.slice ro s.ws.length rc) fr (.slice (some ⟨hg, 0, none⟩) n hcap) (.slice (some ⟨dg, 0, none⟩) n dcap) := ⟨_, rfl⟩
  have Hv := hide hv
  rw [← hv]
  clear hv
  by_cases hk0 : k < 0
  · have E1 : Hid (rgE s H k = 41 ∧ rgV s fr H k = []) := hide (by unfold rgE rgV; rw [if_neg (by omega), if_neg (by omega)]; exact ⟨rfl, rfl⟩)
    rw [E1.out.1, E1.out.2]
    clear E1
    go_enter Try.func18, Try.ntmps18
    go_wp2_with ((with_reducible refine aw_box (t := 37) rfl ?_); intro w1 hw1 hk1 hz1; have HK1 := hide hk1; clear hw1 hk1 hz1)
    go_ret2
    exact ⟨rfl, HK1.out⟩
  · by_cases hkn : (n : Int) ≤ k
    · have E1 : Hid (rgE s H k = 41 ∧ rgV s fr H k = []) := hide (by unfold rgE rgV; rw [if_neg (by rw [HHl.out]; omega), if_neg (by rw [HHl.out]; omega)]; exact ⟨rfl, rfl⟩)
      rw [E1.out.1, E1.out.2]
      clear E1
      go_enter Try.func18, Try.ntmps18
      go_wp2_with ((with_reducible refine aw_box (t := 37) rfl ?_); intro w1 hw1 hk1 hz1; have HK1 := hide hk1; rw [Hv.out] at hw1; have c6 : w1.cell? ⟨w.heap.size, 6, none⟩ = some (.slice (some ⟨hg, 0, none⟩) n hcap) := hw1.cell 6; clear hw1 hk1 hz1)
      go_ret2
      exact ⟨rfl, HK1.out⟩
    · obtain ⟨m, rfl⟩ : ∃ m : Nat, k = m := ⟨k.toNat, by omega⟩
      have hmn : m < n := by omega
      have hmH : m < H.length := by omega
      have c0 := HC.out m _ (HV_get hmH)
      have hgd : H.getD ((m : Int).toNat) [] = H[m] := by simp [hmH]
      by_cases hB : H[m] = []
      · have E1 : Hid (rgE s H m = rE s ∧ rgV s fr H m = rV s (fr + m)) := hide (by
          have hin : 0 ≤ (m : Int) ∧ (m : Int) < (H.length : Int) := by omega
          refine ⟨?_, ?_⟩
          · unfold rgE
            rw [if_pos hin, hgd, if_pos hB]
          · unfold rgV
            rw [if_pos hin, hgd, if_pos hB, Int.toNat_natCast])
        rw [E1.out.1, E1.out.2]
        rw [hB] at c0
        have HR := hide (fun (w' : World) (hk : Kept (fun _ => False) w w') => rread1_at w' s nd HH.out.dok _ (HH.out.wt.kept hk) (fr + m) (by omega))
        have hwa : IntKind.i64.wrap ((fr : Int) + (m : Int)) = ((fr + m : Nat) : Int) := by rw [IntKind.wrap_i64]; omega
        have c0' : w.cell? ⟨hg, m, none⟩ = some (.string ⟨#[]⟩) := c0
        have Hc0 := hide c0'
        clear E1 hgd hB c0 c0' hmH hk0 hkn
        go_enter Try.func18, Try.ntmps18
        go_wp2_with (first
          | ((with_reducible refine aw_box (t := 37) rfl ?_); intro w1 hw1 hk1 hz1; have HK1 := hide hk1; rw [Hv.out] at hw1; have HW1 : Hid (Blk w1 w.heap.size (refPL s (.slice ro s.ws.length rc) fr (.slice (some ⟨hg, 0, none⟩) n hcap) (.slice (some ⟨dg, 0, none⟩) n dcap)) 37) := hide hw1; have c6 : w1.cell? ⟨w.heap.size, 6, none⟩ = some (.slice (some ⟨hg, 0, none⟩) n hcap) := hw1.cell 6; have c5 : w1.cell? ⟨w.heap.size, 5, none⟩ = some (.int .i64 fr) := hw1.cell 5; have c7 : w1.cell? ⟨hg, m, none⟩ = some (.string ⟨#[]⟩) := (World.cell?_of_block (hk1.block hg (World.block_lt_of_cell? w _ Hc0.out) (fun h => h))).trans Hc0.out; clear hw1 hk1 hz1)
          | (with_reducible refine stop_load 33 ?_)
          | fail)
        refine hide ?_
        refine aw_load (M := D.refL s (.slice ro s.ws.length rc)) D.Try.agg33 rfl HW1.out (by rw [refPL_len]; decide) rfl ?_
        try simp only [put_lit, put_none, List.set_cons_succ, List.set_cons_zero]
        go_wp2_with fail
        rw [← D.refL_A]
        refine (HR.out w1 HK1.out).mono ?_
        rintro e w2 ⟨rfl, hk2⟩
        have HK2 := hide (HK1.out.trans hk2 (fun _ _ h => h))
        clear hk2 HR c5 c6 c7
        go_wp2
        go_ret2
        exact ⟨rfl, HK2.out⟩
      · have E1 : Hid (rgE s H m = 0 ∧ rgV s fr H m = H[m]) := hide (by
          have hin : 0 ≤ (m : Int) ∧ (m : Int) < (H.length : Int) := by omega
          refine ⟨?_, ?_⟩
          · unfold rgE
            rw [if_pos hin, hgd, if_neg hB]
          · unfold rgV
            rw [if_pos hin, hgd, if_neg hB])
        rw [E1.out.1, E1.out.2]
        have hne := strN_ne hB
        obtain ⟨tx, htx⟩ : ∃ tx, strN H[m] = tx := ⟨_, rfl⟩
        rw [htx] at c0 hne
        rw [htx]
        have HNe := hide (decide_eq_true hne)
        have Hc0 := hide c0
        clear E1 hgd hB c0 hmH hk0 hkn htx hne
        go_enter Try.func18, Try.ntmps18
        go_wp2_with (first
          | ((with_reducible refine aw_box (t := 37) rfl ?_); intro w1 hw1 hk1 hz1; have HK1 := hide hk1; rw [Hv.out] at hw1; have c6 : w1.cell? ⟨w.heap.size, 6, none⟩ = some (.slice (some ⟨hg, 0, none⟩) n hcap) := hw1.cell 6; have c7 : w1.cell? ⟨hg, m, none⟩ = some (.string tx) := (World.cell?_of_block (hk1.block hg (World.block_lt_of_cell? w _ Hc0.out) (fun h => h))).trans Hc0.out; clear hw1 hk1 hz1)
          | (with_reducible refine stop_bin .neq ?_))
        refine hide ?_
        refine wpList_run rfl (r_neq9 (p := tx) (q := ⟨#[]⟩) rfl rfl) ?_
        rw [HNe.out]
        try simp only [put_lit, put_none, List.set_cons_succ, List.set_cons_zero]
        go_wp2
        go_ret2
        exact ⟨rfl, HK1.out⟩
end Go.Proofs.Ytnlcmgdeohbmoaa

/-
  The document's pool: Image, Drop.
-/
namespace Go.Proofs.Ytnlcmgdeohbmoaa
open Go.RowKit Go.Shelf
set_option linter.unusedSimpArgs false
set_option linter.unusedVariables false
set_option maxRecDepth 100000

def rAll (s : D.DS) (H : List (List Nat)) (k : Nat) : Bool := (List.range k).all fun j : Nat => decide (rgE s H j = 0)
def rImg (s : D.DS) (fr : Nat) (H : List (List Nat)) (k : Nat) : List Nat := (List.range k).flatMap fun j : Nat => rgV s fr H j
theorem rAll_succ (s : D.DS) (H : List (List Nat)) (k : Nat) : rAll s H (k + 1) = (rAll s H k && decide (rgE s H k = 0)) := by
  unfold rAll
  rw [List.range_succ, List.all_append]
  simp
theorem rAll_le {s : D.DS} {H : List (List Nat)} {k n : Nat} (h : k ≤ n) (hn : rAll s H n = true) : rAll s H k = true := by
  unfold rAll at *
  rw [List.all_eq_true] at *
  intro j hj
  exact hn j (List.mem_range.2 (by have := List.mem_range.1 hj; omega))
theorem rImg_succ (s : D.DS) (fr : Nat) (H : List (List Nat)) (k : Nat) : rImg s fr H (k + 1) = rImg s fr H k ++ rgV s fr H k := by
  unfold rImg
  rw [List.range_succ, List.flatMap_append]
  simp
theorem rgE_cases (s : D.DS) (H : List (List Nat)) {k : Nat} (hk : k < H.length) : rgE s H k = 0 ∨ rgE s H k = rE s := by
  unfold rgE
  rw [if_pos (by omega)]
  split
  · exact .inr rfl
  · exact .inl rfl
theorem rV_len (s : D.DS) (a : Nat) : (rV s a).length ≤ 64 := by
  unfold rV
  split
  · simp
  · rw [NV_len, D.part, List.length_take]
    omega
/-- Texts in hand are a block long, or there is none. -/
def H64 (H : List (List Nat)) : Prop := ∀ B ∈ H, B.length ≤ 64
theorem rgV_len {s : D.DS} {fr : Nat} {H : List (List Nat)} (h : H64 H) (k : Int) : (rgV s fr H k).length ≤ 64 := by
  unfold rgV
  split
  · rename_i hk
    split
    · exact rV_len s _
    · have hk2 : k.toNat < H.length := by omega
      have e : H.getD k.toNat [] = H[k.toNat] := by simp [hk2]
      rw [e]
      exact h _ (List.getElem_mem hk2)
  · simp
theorem rImg_len {s : D.DS} {fr : Nat} {H : List (List Nat)} (h : H64 H) : ∀ k, (rImg s fr H k).length ≤ 64 * k
  | 0 => by simp [rImg]
  | k + 1 => by
    rw [rImg_succ, List.length_append]
    have := rImg_len (s := s) (fr := fr) h k
    have := rgV_len (s := s) (fr := fr) h (k : Int)
    omega
set_option maxHeartbeats 2000000 in
theorem rpimage_at (w : World) (N nd : Nat) (s : D.DS) (rv : Value) (fr n : Nat) (hv dv : Value) (H : List (List Nat)) (T : List Bool) (h : RfP w N nd s rv fr n hv dv H T) (h64 : H64 H) :
    Calls Try.prog 21 #[refP s rv fr hv dv] w fun e w' => e = .returned (.tuple #[.string (strN (if rAll s H n then rImg s fr H n else [])), .int .i64 (if rAll s H n then 0 else rE s)]) ∧ Kept (fun _ => False) w w' := by
  obtain ⟨hHl, hTl⟩ := h.lens
  have HG := hide (fun (w' : World) (hk : Kept (fun _ => False) w w') (k : Int) => rpget_at w' N nd s rv fr n hv dv H T (h.kept hk) k)
  have hn := h.n64
  have H64' := hide h64
  obtain ⟨ro, rc, rfl⟩ := h.wt.slice
  obtain ⟨hg, hcap, rfl, hcell⟩ := h.hh.cell
  obtain ⟨dg, dcap, rfl, dcell⟩ := h.hd.cell
  have HHl := hide hHl
  obtain ⟨RV, hRV⟩ : ∃ RV, (if rAll s H n then rImg s fr H n else []) = RV := ⟨_, rfl⟩
  obtain ⟨RE, hRE⟩ : ∃ RE, (if rAll s H n then 0 else rE s) = RE := ⟨_, rfl⟩
  have HRV := hide hRV
  have HRE := hide hRE
  rw [hRV, hRE]
  clear h hcell dcell hTl hHl h64 hRV hRE
  obtain ⟨v, hv⟩ : ∃ v, v = refP s (.slice ro s.ws.length rc) fr (.slice (some ⟨hg, 0, none⟩) n hcap) (.slice (some ⟨dg, 0, none⟩) n dcap) := ⟨_, rfl⟩
  have Hv := hide hv
  rw [← hv]
  clear hv
  obtain ⟨pl, hpl⟩ : ∃ pl, pl = refPL s (.slice ro s.ws.length rc) fr (.slice (some ⟨hg, 0, none⟩) n hcap) (.slice (some ⟨dg, 0, none⟩) n dcap) := ⟨_, rfl⟩
  have Hpl := hide hpl
  have Hagg : Hid (Value.agg pl.toArray = v) := hide (by rw [Hv.out, hpl]; rfl)
  rw [← Hv.out] at HG
  clear hpl
  go_enter Try.func21, Try.ntmps21
  go_wp2_with ((with_reducible refine aw_box (t := 37) rfl ?_); intro w1 hw1 hk1 hz1; have HK1 := hide hk1; rw [Hv.out] at hw1; have hw1' : Blk w1 w.heap.size (refPL s (.slice ro s.ws.length rc) fr (.slice (some ⟨hg, 0, none⟩) n hcap) (.slice (some ⟨dg, 0, none⟩) n dcap)) 37 := hw1; have c6 : w1.cell? ⟨w.heap.size, 6, none⟩ = some (.slice (some ⟨hg, 0, none⟩) n hcap) := hw1'.cell 6; rw [← Hpl.out] at hw1'; have HW1 := hide hw1'; clear hw1 hw1' hk1 hz1)
  have Hpl8 : Hid (pl.length = 8) := hide (by rw [Hpl.out]; rfl)
  have hplt : Hid ((pl.drop 0).take 8 = pl) := hide (by rw [List.drop_zero, List.take_of_length_le (by rw [Hpl8.out]; exact Nat.le_refl _)])
  go_loopw [4, 11] (fun o i wr => ∃ k : Nat, i = .int .i64 k ∧ k ≤ n ∧ o = .string (strN (rImg s fr H k)) ∧ Hid (rAll s H k = true) ∧ Hid (Kept (fun _ => False) w wr) ∧ Hid (Blk wr w.heap.size pl 37)) (fun _ i _ => n - (intOf i).toNat)
  case atStart => exact ⟨0, rfl, Nat.zero_le _, rfl, hide rfl, HK1, HW1⟩
  case round =>
    obtain ⟨k, rfl, hk, rfl, HA, HK, HW⟩ := hrel
    clear c6 HW1
    have HS := hide (rAll_succ s H k)
    have HI := hide (rImg_succ s fr H k)
    have HL := hide (rImg_len (s := s) (fr := fr) H64'.out k)
    have HL2 := hide (rgV_len (s := s) (fr := fr) H64'.out (k : Int))
    obtain ⟨X, hX⟩ : ∃ X, rImg s fr H k = X := ⟨_, rfl⟩
    have HX := hide hX
    rw [hX] at HI HL
    rw [hX]
    clear hX
    by_cases hlt : k < n
    · go_wp2_with (first | (with_reducible refine stop_load 37 ?_) | fail)
      refine hide ?_
      refine aw_load (M := pl) Try.agg37 rfl HW.out (by rw [Hpl8.out]; decide) hplt.out ?_
      rw [Hagg.out]
      try simp only [put_lit, put_none, List.set_cons_succ, List.set_cons_zero]
      go_wp2_with fail
      refine (HG.out wr HK.out (k : Int)).mono ?_
      rintro e w2 ⟨rfl, hk2⟩
      have HK2 := hide (HK.out.trans hk2 (fun _ _ h => h))
      have HW2 := hide (hk2.blk HW.out (fun h => h))
      clear hk2
      obtain ⟨V, hV⟩ : ∃ V, rgV s fr H (k : Int) = V := ⟨_, rfl⟩
      rw [hV] at HI HL2
      rw [hV]
      by_cases h0 : rgE s H (k : Int) = 0
      · have HA2 : Hid (rAll s H (k + 1) = true) := hide (by rw [HS.out, HA.out, h0]; rfl)
        rw [h0]
        clear hV h0
        go_wp2_with (first | (with_reducible refine stop_bin .add ?_) | fail)
        refine hide ?_
        refine wpList_run rfl (r_add9 (A := X) (B := V) (by have := HL.out; have := HL2.out; omega) rfl rfl) ?_
        rw [← HI.out]
        try simp only [put_lit, put_none, List.set_cons_succ, List.set_cons_zero]
        go_wp2
        go_roundw
        case rel => exact ⟨k + 1, by simp, by omega, rfl, HA2, HK2, HW2⟩
        case measure => simp [intOf]; omega
      · have hrE : rgE s H (k : Int) = rE s := (rgE_cases s H (by rw [HHl.out]; exact hlt)).resolve_left h0
        have HNo : Hid (rAll s H n = false) := hide (by
          rw [Bool.eq_false_iff]
          intro hn
          have := rAll_le (k := k + 1) (by omega) hn
          rw [HS.out, Bool.and_eq_true] at this
          exact h0 (of_decide_eq_true this.2))
        have HrE := hide hrE
        obtain ⟨er, her⟩ : ∃ er, rgE s H (k : Int) = er := ⟨_, rfl⟩
        rw [her] at h0 HrE
        rw [her]
        clear hV hrE her
        go_wp2
        go_ret2
        exact ⟨by rw [← HRV.out, ← HRE.out, HNo.out, HrE.out]; rfl, HK2.out⟩
    · obtain rfl : k = n := by omega
      go_wp2
      go_ret2
      exact ⟨by rw [← HRV.out, ← HRE.out, HA.out, ← HX.out]; rfl, HK.out⟩
end Go.Proofs.Ytnlcmgdeohbmoaa
